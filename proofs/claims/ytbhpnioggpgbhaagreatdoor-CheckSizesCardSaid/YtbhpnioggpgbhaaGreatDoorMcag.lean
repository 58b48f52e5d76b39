/-
 Layer 1: the contracts of Word, name, text, said. Written by an AI agent.
 Layer 1: the library's functions that lex calls. Written by an AI agent.
 Layer 1: the contract of number. Written by an AI agent.
-/
import Derived.Shelf.Lay
import Derived.Ground.NamesProg
import Derived.Shelf.Strings.Prefix
import Derived.Shelf.Small.Strs
import Derived.Shelf.Strings.Count
import Derived.Shelf.Strconv.ErrVarParseInt
import Derived.Test.YtbhpnioggpgbhaaGreatDoorMcaf
namespace Go.Proofs.YtbhpnioggpgbhaaGreatDoor
open Go.RowKit
set_option linter.unusedVariables false
set_option linter.unusedSimpArgs false
theorem toList_data (s : ByteArray) : s.toList = s.data.toList := Lib.toList_data s
theorem bytes_ext {a b : ByteArray} (h : a.data.toList = b.data.toList) : a = b := by
 obtain ⟨x⟩ := a
 obtain ⟨y⟩ := b
 have : x = y := Array.toList_inj.1 h
 rw [this]
theorem ext_take (s : ByteArray) (k : Nat) : (s.extract 0 k).data.toList = s.data.toList.take k := by simp
theorem ext_drop (s : ByteArray) (k : Nat) : (s.extract k s.size).data.toList = s.data.toList.drop k := by
 simp
 rw [List.take_of_length_le]
 have : s.data.toList.length = s.size := by simp
 rw [List.length_drop, this]
 exact Nat.le_refl _
theorem ext_size (s : ByteArray) (k : Nat) (h : k ≤ s.size) : (s.extract 0 k).size = k := by simp; omega
theorem ext_size2 (s : ByteArray) (k : Nat) : (s.extract k s.size).size = s.size - k := by simp
theorem len_size (s : ByteArray) : s.data.toList.length = s.size := by simp
theorem isWord_iff (l : List UInt8) : isWord l = true ↔ l = [102, 110] ∨ l = [108, 101, 116] ∨ l = [105, 102] ∨ l = [101, 108, 115, 101] ∨ l = [119, 104, 105, 108, 101] ∨ l = [114, 101, 116, 117, 114, 110] ∨ l = [112, 114, 105, 110, 116] ∨ l = [105, 110, 112, 117, 116] ∨ l = [110, 101, 119] ∨ l = [108, 101, 110] ∨ l = [116, 114, 117, 101] ∨ l = [102, 97, 108, 115, 101] ∨ l = [105, 110, 116] ∨ l = [98, 111, 111, 108] ∨ l = [116, 101, 120, 116] ∨ l = [108, 105, 115, 116] := by
 unfold isWord
 rw [List.contains_iff_mem]
 simp only [wordsL, List.mem_cons, List.not_mem_nil, or_false]
theorem word_beq (s : ByteArray) (l : List UInt8) : (s.toList == l) = decide (s.data.toList = l) := by
 rw [toList_data, Bool.eq_iff_iff]
 simp
set_option maxHeartbeats 1000000 in
theorem word_at0 (w : World) : Calls Tryz.prog 114 #[.string { data := #[102, 110] }] w fun e w' => e = .returned (.bool true) ∧ Keeps (fun _ => False) w w' := by
 go_enter Tryz.func114, Tryz.ntmps114
 go_wp2
 go_ret
 exact ⟨rfl, Keeps.refl _ _⟩
set_option maxHeartbeats 1000000 in
theorem word_at1 (w : World) : Calls Tryz.prog 114 #[.string { data := #[108, 101, 116] }] w fun e w' => e = .returned (.bool true) ∧ Keeps (fun _ => False) w w' := by
 go_enter Tryz.func114, Tryz.ntmps114
 go_wp2
 go_ret
 exact ⟨rfl, Keeps.refl _ _⟩
set_option maxHeartbeats 1000000 in
theorem word_at2 (w : World) : Calls Tryz.prog 114 #[.string { data := #[105, 102] }] w fun e w' => e = .returned (.bool true) ∧ Keeps (fun _ => False) w w' := by
 go_enter Tryz.func114, Tryz.ntmps114
 go_wp2
 go_ret
 exact ⟨rfl, Keeps.refl _ _⟩
set_option maxHeartbeats 1000000 in
theorem word_at3 (w : World) : Calls Tryz.prog 114 #[.string { data := #[101, 108, 115, 101] }] w fun e w' => e = .returned (.bool true) ∧ Keeps (fun _ => False) w w' := by
 go_enter Tryz.func114, Tryz.ntmps114
 go_wp2
 go_ret
 exact ⟨rfl, Keeps.refl _ _⟩
set_option maxHeartbeats 1000000 in
theorem word_at4 (w : World) : Calls Tryz.prog 114 #[.string { data := #[119, 104, 105, 108, 101] }] w fun e w' => e = .returned (.bool true) ∧ Keeps (fun _ => False) w w' := by
 go_enter Tryz.func114, Tryz.ntmps114
 go_wp2
 go_ret
 exact ⟨rfl, Keeps.refl _ _⟩
set_option maxHeartbeats 1000000 in
theorem word_at5 (w : World) : Calls Tryz.prog 114 #[.string { data := #[114, 101, 116, 117, 114, 110] }] w fun e w' => e = .returned (.bool true) ∧ Keeps (fun _ => False) w w' := by
 go_enter Tryz.func114, Tryz.ntmps114
 go_wp2
 go_ret
 exact ⟨rfl, Keeps.refl _ _⟩
set_option maxHeartbeats 1000000 in
theorem word_at6 (w : World) : Calls Tryz.prog 114 #[.string { data := #[112, 114, 105, 110, 116] }] w fun e w' => e = .returned (.bool true) ∧ Keeps (fun _ => False) w w' := by
 go_enter Tryz.func114, Tryz.ntmps114
 go_wp2
 go_ret
 exact ⟨rfl, Keeps.refl _ _⟩
set_option maxHeartbeats 1000000 in
theorem word_at7 (w : World) : Calls Tryz.prog 114 #[.string { data := #[105, 110, 112, 117, 116] }] w fun e w' => e = .returned (.bool true) ∧ Keeps (fun _ => False) w w' := by
 go_enter Tryz.func114, Tryz.ntmps114
 go_wp2
 go_ret
 exact ⟨rfl, Keeps.refl _ _⟩
set_option maxHeartbeats 1000000 in
theorem word_at8 (w : World) : Calls Tryz.prog 114 #[.string { data := #[110, 101, 119] }] w fun e w' => e = .returned (.bool true) ∧ Keeps (fun _ => False) w w' := by
 go_enter Tryz.func114, Tryz.ntmps114
 go_wp2
 go_ret
 exact ⟨rfl, Keeps.refl _ _⟩
set_option maxHeartbeats 1000000 in
theorem word_at9 (w : World) : Calls Tryz.prog 114 #[.string { data := #[108, 101, 110] }] w fun e w' => e = .returned (.bool true) ∧ Keeps (fun _ => False) w w' := by
 go_enter Tryz.func114, Tryz.ntmps114
 go_wp2
 go_ret
 exact ⟨rfl, Keeps.refl _ _⟩
set_option maxHeartbeats 1000000 in
theorem word_at10 (w : World) : Calls Tryz.prog 114 #[.string { data := #[116, 114, 117, 101] }] w fun e w' => e = .returned (.bool true) ∧ Keeps (fun _ => False) w w' := by
 go_enter Tryz.func114, Tryz.ntmps114
 go_wp2
 go_ret
 exact ⟨rfl, Keeps.refl _ _⟩
set_option maxHeartbeats 1000000 in
theorem word_at11 (w : World) : Calls Tryz.prog 114 #[.string { data := #[102, 97, 108, 115, 101] }] w fun e w' => e = .returned (.bool true) ∧ Keeps (fun _ => False) w w' := by
 go_enter Tryz.func114, Tryz.ntmps114
 go_wp2
 go_ret
 exact ⟨rfl, Keeps.refl _ _⟩
set_option maxHeartbeats 1000000 in
theorem word_at12 (w : World) : Calls Tryz.prog 114 #[.string { data := #[105, 110, 116] }] w fun e w' => e = .returned (.bool true) ∧ Keeps (fun _ => False) w w' := by
 go_enter Tryz.func114, Tryz.ntmps114
 go_wp2
 go_ret
 exact ⟨rfl, Keeps.refl _ _⟩
set_option maxHeartbeats 1000000 in
theorem word_at13 (w : World) : Calls Tryz.prog 114 #[.string { data := #[98, 111, 111, 108] }] w fun e w' => e = .returned (.bool true) ∧ Keeps (fun _ => False) w w' := by
 go_enter Tryz.func114, Tryz.ntmps114
 go_wp2
 go_ret
 exact ⟨rfl, Keeps.refl _ _⟩
set_option maxHeartbeats 1000000 in
theorem word_at14 (w : World) : Calls Tryz.prog 114 #[.string { data := #[116, 101, 120, 116] }] w fun e w' => e = .returned (.bool true) ∧ Keeps (fun _ => False) w w' := by
 go_enter Tryz.func114, Tryz.ntmps114
 go_wp2
 go_ret
 exact ⟨rfl, Keeps.refl _ _⟩
set_option maxHeartbeats 1000000 in
theorem word_at15 (w : World) : Calls Tryz.prog 114 #[.string { data := #[108, 105, 115, 116] }] w fun e w' => e = .returned (.bool true) ∧ Keeps (fun _ => False) w w' := by
 go_enter Tryz.func114, Tryz.ntmps114
 go_wp2
 go_ret
 exact ⟨rfl, Keeps.refl _ _⟩
set_option maxHeartbeats 4000000 in
theorem word_no (s : ByteArray) (h : isWord s.data.toList = false) (w : World) : Calls Tryz.prog 114 #[.string s] w fun e w' => e = .returned (.bool false) ∧ Keeps (fun _ => False) w w' := by
 have h2 : ¬ isWord s.data.toList = true := by rw [h]; decide
 rw [isWord_iff] at h2
 simp only [not_or] at h2
 obtain ⟨q0, q1, q2, q3, q4, q5, q6, q7, q8, q9, q10, q11, q12, q13, q14, q15⟩ := h2
 have r0 : (s.toList == [102, 110]) = false := by rw [word_beq]; exact decide_eq_false q0
 have r1 : (s.toList == [108, 101, 116]) = false := by rw [word_beq]; exact decide_eq_false q1
 have r2 : (s.toList == [105, 102]) = false := by rw [word_beq]; exact decide_eq_false q2
 have r3 : (s.toList == [101, 108, 115, 101]) = false := by rw [word_beq]; exact decide_eq_false q3
 have r4 : (s.toList == [119, 104, 105, 108, 101]) = false := by rw [word_beq]; exact decide_eq_false q4
 have r5 : (s.toList == [114, 101, 116, 117, 114, 110]) = false := by rw [word_beq]; exact decide_eq_false q5
 have r6 : (s.toList == [112, 114, 105, 110, 116]) = false := by rw [word_beq]; exact decide_eq_false q6
 have r7 : (s.toList == [105, 110, 112, 117, 116]) = false := by rw [word_beq]; exact decide_eq_false q7
 have r8 : (s.toList == [110, 101, 119]) = false := by rw [word_beq]; exact decide_eq_false q8
 have r9 : (s.toList == [108, 101, 110]) = false := by rw [word_beq]; exact decide_eq_false q9
 have r10 : (s.toList == [116, 114, 117, 101]) = false := by rw [word_beq]; exact decide_eq_false q10
 have r11 : (s.toList == [102, 97, 108, 115, 101]) = false := by rw [word_beq]; exact decide_eq_false q11
 have r12 : (s.toList == [105, 110, 116]) = false := by rw [word_beq]; exact decide_eq_false q12
 have r13 : (s.toList == [98, 111, 111, 108]) = false := by rw [word_beq]; exact decide_eq_false q13
 have r14 : (s.toList == [116, 101, 120, 116]) = false := by rw [word_beq]; exact decide_eq_false q14
 have r15 : (s.toList == [108, 105, 115, 116]) = false := by rw [word_beq]; exact decide_eq_false q15
 clear h q0 q1 q2 q3 q4 q5 q6 q7 q8 q9 q10 q11 q12 q13 q14 q15
 go_enter Tryz.func114, Tryz.ntmps114
 go_wp2
 go_ret
 exact ⟨rfl, Keeps.refl _ _⟩
theorem word_any (s : ByteArray) (w : World) : Calls Tryz.prog 114 #[.string s] w fun e w' => e = .returned (.bool (isWord s.data.toList)) ∧ Keeps (fun _ => False) w w' := by
 cases h : isWord s.data.toList with
 | false => exact word_no s h w
 | true =>
  rw [isWord_iff] at h
  rcases h with h | h | h | h | h | h | h | h | h | h | h | h | h | h | h | h
  ·rw [show s = { data := #[102, 110] } from bytes_ext h]; exact word_at0 w
  ·rw [show s = { data := #[108, 101, 116] } from bytes_ext h]; exact word_at1 w
  ·rw [show s = { data := #[105, 102] } from bytes_ext h]; exact word_at2 w
  ·rw [show s = { data := #[101, 108, 115, 101] } from bytes_ext h]; exact word_at3 w
  ·rw [show s = { data := #[119, 104, 105, 108, 101] } from bytes_ext h]; exact word_at4 w
  ·rw [show s = { data := #[114, 101, 116, 117, 114, 110] } from bytes_ext h]; exact word_at5 w
  ·rw [show s = { data := #[112, 114, 105, 110, 116] } from bytes_ext h]; exact word_at6 w
  ·rw [show s = { data := #[105, 110, 112, 117, 116] } from bytes_ext h]; exact word_at7 w
  ·rw [show s = { data := #[110, 101, 119] } from bytes_ext h]; exact word_at8 w
  ·rw [show s = { data := #[108, 101, 110] } from bytes_ext h]; exact word_at9 w
  ·rw [show s = { data := #[116, 114, 117, 101] } from bytes_ext h]; exact word_at10 w
  ·rw [show s = { data := #[102, 97, 108, 115, 101] } from bytes_ext h]; exact word_at11 w
  ·rw [show s = { data := #[105, 110, 116] } from bytes_ext h]; exact word_at12 w
  ·rw [show s = { data := #[98, 111, 111, 108] } from bytes_ext h]; exact word_at13 w
  ·rw [show s = { data := #[116, 101, 120, 116] } from bytes_ext h]; exact word_at14 w
  ·rw [show s = { data := #[108, 105, 115, 116] } from bytes_ext h]; exact word_at15 w
set_option maxHeartbeats 2000000 in
theorem name_any (s : ByteArray) (hs : s.size ≤ 1000) (w : World) : Calls Tryz.prog 87 #[.string s] w fun e w' => e = .returned (.tuple #[.int .i64 ((nameL s.data.toList).1 : Nat), .int .i64 ((nameL s.data.toList).2.1 : Nat), .int .i64 ((nameL s.data.toList).2.2 : Nat)]) ∧ Keeps (fun _ => False) w w' := by
 have RC := Lib.hid (run_any 113 nmc tells_nmc enter91 s hs w)
 obtain ⟨n, hn⟩ : ∃ n : Nat, n = runL nmc s.data.toList := ⟨_, rfl⟩
 have hle : n ≤ s.size := by rw [hn, ← len_size]; exact runL_le _ _
 have WC : Hid (∀ w, Calls Tryz.prog 114 #[.string (s.extract 0 n)] w fun e w' => e = .returned (.bool (isWord (s.data.toList.take n))) ∧ Keeps (fun _ => False) w w') := fun w => by
  have h := word_any (s.extract 0 n) w
  rw [ext_take] at h
  exact h
 have hv : nameL s.data.toList = if isWord (s.data.toList.take n) then (4, n, 0) else if 8 < n then (0, 0, 13) else (3, n, 0) := by unfold nameL; rw [← hn]
 rw [← hn] at RC
 rw [hv]
 clear hv hn
 have hleI : (n : Int) ≤ (s.size : Int) := by omega
 have hn0 : (0 : Int) ≤ (n : Int) := by omega
 cases hw : isWord (s.data.toList.take n) with
 | true =>
  rw [hw] at WC
  clear hw
  go_enter Tryz.func87, Tryz.ntmps87
  go_wp2_with fail
  refine RC.out.mono ?_
  rintro e w1 ⟨rfl, k1⟩
  have K1 := Lib.hid k1
  have WC1 := Lib.hid (WC.out w1)
  clear k1
  go_wp2_with fail
  refine WC1.out.mono ?_
  rintro e w2 ⟨rfl, k2⟩
  have K2 := Lib.hid (K1.out.trans k2 (fun _ _ h => h))
  clear k2
  go_wp2
  go_ret3
  exact ⟨rfl, K2.out⟩
 | false =>
  rw [hw] at WC
  clear hw
  by_cases h8 : 8 < n
  ·have h8I : (8 : Int) < (n : Int) := by omega
   have hd : decide ((8 : Int) < (n : Int)) = true := decide_eq_true h8I
   rw [if_pos h8]
   go_enter Tryz.func87, Tryz.ntmps87
   go_wp2_with fail
   refine RC.out.mono ?_
   rintro e w1 ⟨rfl, k1⟩
   have K1 := Lib.hid k1
   have WC1 := Lib.hid (WC.out w1)
   clear k1
   go_wp2_with fail
   refine WC1.out.mono ?_
   rintro e w2 ⟨rfl, k2⟩
   have K2 := Lib.hid (K1.out.trans k2 (fun _ _ h => h))
   clear k2
   go_wp2
   go_ret3
   exact ⟨rfl, K2.out⟩
  ·have h8I : ¬ (8 : Int) < (n : Int) := by omega
   have hd : decide ((8 : Int) < (n : Int)) = false := decide_eq_false h8I
   rw [if_neg h8]
   go_enter Tryz.func87, Tryz.ntmps87
   go_wp2_with fail
   refine RC.out.mono ?_
   rintro e w1 ⟨rfl, k1⟩
   have K1 := Lib.hid k1
   have WC1 := Lib.hid (WC.out w1)
   clear k1
   go_wp2_with fail
   refine WC1.out.mono ?_
   rintro e w2 ⟨rfl, k2⟩
   have K2 := Lib.hid (K1.out.trans k2 (fun _ _ h => h))
   clear k2
   go_wp2
   go_ret3
   exact ⟨rfl, K2.out⟩
set_option maxHeartbeats 2000000 in
theorem text_any (s : ByteArray) (hs : s.size ≤ 1000) (h1 : 1 ≤ s.size) (w : World) : Calls Tryz.prog 88 #[.string s] w fun e w' => e = .returned (.tuple #[.int .i64 ((textL (s.data.toList.drop 1)).1 : Nat), .int .i64 ((textL (s.data.toList.drop 1)).2.1 : Nat), .int .i64 ((textL (s.data.toList.drop 1)).2.2 : Nat)]) ∧ Keeps (fun _ => False) w w' := by
 have RC := Lib.hid (run_any 115 txc tells_txc enter92 (s.extract 1 s.size) (by rw [ext_size2]; omega) w)
 rw [ext_drop] at RC
 obtain ⟨n, hn⟩ : ∃ n : Nat, n = runL txc (s.data.toList.drop 1) := ⟨_, rfl⟩
 have hle : n + 1 ≤ s.size := by have := runL_le txc (s.data.toList.drop 1); rw [List.length_drop, len_size] at this; omega
 have hv : textL (s.data.toList.drop 1) = if (s.data.toList.drop 1)[n]? = some 34 then (if 12 < n then (0, 0, 4) else (2, n + 2, 0)) else (0, 0, 11) := by unfold textL; rw [← hn]
 rw [← hn] at RC
 rw [hv]
 have hsz : 1 ≤ (s.size : Int) := by omega
 have hleI : (n : Int) + 1 ≤ (s.size : Int) := by omega
 have hleJ : 1 + (n : Int) ≤ (s.size : Int) := by omega
 have hn0 : (0 : Int) ≤ (n : Int) := by omega
 have hn1 : (0 : Int) ≤ 1 + (n : Int) := by omega
 have sw : IntKind.i64.wrap (1 + (n : Int)) = 1 + (n : Int) := IntWalk.i64_in _ (by omega)
 have tn : (1 + (n : Int)).toNat = n + 1 := by omega
 rw [List.getElem?_drop, show 1 + n = n + 1 by omega]
 clear hv hn
 by_cases hend : n + 1 = s.size
 ·have hq : ¬ s.data.toList[n + 1]? = some 34 := by rw [List.getElem?_eq_none (by rw [len_size]; omega)]; simp
  have he : ((1 + (n : Int)) == (s.size : Int)) = true := by simp; omega
  have HE := Lib.hid hend
  rw [if_neg hq]
  clear hq hend
  go_enter Tryz.func88, Tryz.ntmps88
  go_wp2_with fail
  refine RC.out.mono ?_
  rintro e w1 ⟨rfl, k1⟩
  have K1 := Lib.hid k1
  clear k1
  go_wp2
  go_ret3
  exact ⟨rfl, K1.out⟩
 ·have hlt : n + 1 < s.size := by omega
  have hltI : 1 + (n : Int) < (s.size : Int) := by omega
  have he : ((1 + (n : Int)) == (s.size : Int)) = false := by simp; omega
  obtain ⟨c, hc⟩ : ∃ c : UInt8, c = s[n + 1] := ⟨_, rfl⟩
  rw [at_byte s (n + 1) hlt, ← hc]
  have HC := Lib.hid hc
  clear hc
  by_cases hq : c = 34
  ·subst hq
   rw [if_pos rfl]
   have hb : ((s[n + 1].toNat : Int) != 34) = false := by rw [← HC.out]; rfl
   by_cases h12 : 12 < n
   ·have h12I : (12 : Int) < (n : Int) := by omega
    have hd : decide ((12 : Int) < (n : Int)) = true := decide_eq_true h12I
    rw [if_pos h12]
    go_enter Tryz.func88, Tryz.ntmps88
    go_wp2_with fail
    refine RC.out.mono ?_
    rintro e w1 ⟨rfl, k1⟩
    have K1 := Lib.hid k1
    clear k1
    go_wp2
    go_ret3
    exact ⟨rfl, K1.out⟩
   ·have h12I : ¬ (12 : Int) < (n : Int) := by omega
    have hd : decide ((12 : Int) < (n : Int)) = false := decide_eq_false h12I
    have sw2 : IntKind.i64.wrap (1 + (n : Int) + 1) = (n : Int) + 2 := by rw [IntWalk.i64_in _ (by omega)]; omega
    have e2 : ((n + 2 : Nat) : Int) = 1 + (n : Int) + 1 := by omega
    rw [if_neg h12]
    show Calls Tryz.prog 88 #[.string s] w fun e w' => e = .returned (.tuple #[.int .i64 ((2 : Nat) : Int), .int .i64 ((n + 2 : Nat) : Int), .int .i64 ((0 : Nat) : Int)]) ∧ Keeps (fun _ => False) w w'
    rw [e2]
    have E2 := Lib.hid sw2
    clear sw2 e2
    go_enter Tryz.func88, Tryz.ntmps88
    go_wp2_with fail
    refine RC.out.mono ?_
    rintro e w1 ⟨rfl, k1⟩
    have K1 := Lib.hid k1
    clear k1
    go_wp2
    go_ret3
    exact ⟨rfl, K1.out⟩
  ·have hb : ((s[n + 1].toNat : Int) != 34) = true := by
    rw [← HC.out]
    have h34 : c.toNat ≠ 34 := fun h => hq (UInt8.toNat_inj.1 (h.trans (show 34 = (34 : UInt8).toNat from rfl)))
    exact bne_iff_ne.2 (fun h => h34 (by omega))
   rw [if_neg (fun h => hq (Option.some.inj h))]
   go_enter Tryz.func88, Tryz.ntmps88
   go_wp2_with fail
   refine RC.out.mono ?_
   rintro e w1 ⟨rfl, k1⟩
   have K1 := Lib.hid k1
   clear k1
   go_wp2
   go_ret3
   exact ⟨rfl, K1.out⟩
set_option maxHeartbeats 1000000 in
theorem said_text (s : ByteArray) (h2 : 2 ≤ s.size) (hs : s.size ≤ 1000) (w : World) : Calls Tryz.prog 58 #[.int .i64 2, .string s] w fun e w' => e = .returned (.string (s.extract 1 (s.size - 1))) ∧ Keeps (fun _ => False) w w' := by
 have e1 : (1 : Int) ≤ (s.size : Int) - 1 := by omega
 have e2 : (s.size : Int) - 1 ≤ (s.size : Int) := by omega
 have e3 : ((s.size : Int) - 1).toNat = s.size - 1 := by omega
 have e4 : (0 : Int) ≤ (s.size : Int) - 1 := by omega
 have e5 : IntKind.i64.wrap ((s.size : Int) - 1) = (s.size : Int) - 1 := IntWalk.i64_in _ (by omega)
 go_enter Tryz.func58, Tryz.ntmps58
 go_wp2
 go_ret
 exact ⟨rfl, Keeps.refl _ _⟩
set_option maxHeartbeats 1000000 in
theorem said_other (k : Nat) (hk : ¬ k = 2) (s : ByteArray) (w : World) : Calls Tryz.prog 58 #[.int .i64 k, .string s] w fun e w' => e = .returned (.string s) ∧ Keeps (fun _ => False) w w' := by
 have e1 : ((k : Int) == 2) = false := by simp; omega
 go_enter Tryz.func58, Tryz.ntmps58
 go_wp2
 go_ret
 exact ⟨rfl, Keeps.refl _ _⟩
/-- Bytes as a string. -/
def ofL (l : List UInt8) : ByteArray := ⟨l.toArray⟩
theorem ofL_list (l : List UInt8) : (ofL l).data.toList = l := by simp [ofL]
theorem ofL_size (l : List UInt8) : (ofL l).size = l.length := by rw [← len_size, ofL_list]
theorem ofL_of {s : ByteArray} {l : List UInt8} (h : s.data.toList = l) : s = ofL l := bytes_ext (by rw [h, ofL_list])
theorem said_any (k : Nat) (s : ByteArray) (h2 : k = 2 → 2 ≤ s.size) (hs : s.size ≤ 1000) (w : World) : Calls Tryz.prog 58 #[.int .i64 k, .string s] w fun e w' => e = .returned (.string (ofL (saidL k s.data.toList))) ∧ Keeps (fun _ => False) w w' := by
 by_cases hk : k = 2
 ·subst hk
  have e : s.extract 1 (s.size - 1) = ofL (saidL 2 s.data.toList) := ofL_of (by
   unfold saidL
   rw [if_pos rfl, len_size]
   simp [List.drop_take])
  rw [← e]
  exact said_text s (h2 rfl) hs w
 ·have e : s = ofL (saidL k s.data.toList) := ofL_of (by unfold saidL; rw [if_neg hk])
  rw [← e]
  exact said_other k hk s w
end Go.Proofs.YtbhpnioggpgbhaaGreatDoor

namespace Go.Proofs.YtbhpnioggpgbhaaGreatDoor
open Go.RowKit Go.Shelf
set_option linter.unusedVariables false
set_option linter.unusedSimpArgs false

def laysPrefix_ren : Go.Shelf.Ren := ⟨fun | 99 => 55 | 206 => 82 | n => n, fun | 9 => 9 | 4 => 4 | 3 => 3 | n => n, fun | n => n⟩
theorem laysPrefix : Go.Proofs.Lays.n99 Tryz.prog laysPrefix_ren := {
  mixed := by kernel_rfl
  f99 := Tryz.func55.trans (congrArg some (by kernel_rfl))
  f206 := Tryz.func82.trans (congrArg some (by kernel_rfl))
  t3 := Tryz.underlying3
  a3 := Tryz.isAgg3
  z3 := Tryz.sizeOf3
  v3 := Tryz.zeroValue3
  t4 := Tryz.underlying4
  a4 := Tryz.isAgg4
  z4 := Tryz.sizeOf4
  v4 := Tryz.zeroValue4
  t9 := Tryz.underlying9
  a9 := Tryz.isAgg9
  z9 := Tryz.sizeOf9
  v9 := Tryz.zeroValue9 }
def laysIndexByte_ren : Go.Shelf.Ren := ⟨fun | 137 => 56 | 217 => 83 | 266 => 110 | n => n, fun | 9 => 9 | 5 => 5 | 3 => 3 | n => n, fun | n => n⟩
theorem laysIndexByte : Go.Proofs.Lays.n137 Tryz.prog laysIndexByte_ren := {
  mixed := by kernel_rfl
  f137 := Tryz.func56.trans (congrArg some (by kernel_rfl))
  f217 := Tryz.func83.trans (congrArg some (by kernel_rfl))
  f266 := Tryz.func110.trans (congrArg some (by kernel_rfl))
  t3 := Tryz.underlying3
  a3 := Tryz.isAgg3
  z3 := Tryz.sizeOf3
  v3 := Tryz.zeroValue3
  t5 := Tryz.underlying5
  a5 := Tryz.isAgg5
  z5 := Tryz.sizeOf5
  v5 := Tryz.zeroValue5
  t9 := Tryz.underlying9
  a9 := Tryz.isAgg9
  z9 := Tryz.sizeOf9
  v9 := Tryz.zeroValue9 }
def laysCount_ren : Go.Shelf.Ren := ⟨fun | 138 => 116 | 195 => 135 | 218 => 136 | 143 => 137 | 219 => 149 | 217 => 83 | 225 => 158 | 224 => 159 | 267 => 160 | 266 => 110 | 314 => 164 | n => n, fun | 9 => 9 | 3 => 3 | 4 => 4 | 5 => 5 | 0 => 0 | 46 => 134 | 146 => 151 | 51 => 150 | n => n, fun | 1 => 0 | n => n⟩
theorem laysCount : Go.Proofs.Lays.n138 Tryz.prog laysCount_ren := {
  mixed := by kernel_rfl
  f138 := Tryz.func116.trans (congrArg some (by kernel_rfl))
  f143 := Tryz.func137.trans (congrArg some (by kernel_rfl))
  f195 := Tryz.func135.trans (congrArg some (by kernel_rfl))
  f217 := Tryz.func83.trans (congrArg some (by kernel_rfl))
  f218 := Tryz.func136.trans (congrArg some (by kernel_rfl))
  f219 := Tryz.func149.trans (congrArg some (by kernel_rfl))
  f224 := Tryz.func159.trans (congrArg some (by kernel_rfl))
  f225 := Tryz.func158.trans (congrArg some (by kernel_rfl))
  f266 := Tryz.func110.trans (congrArg some (by kernel_rfl))
  f267 := Tryz.func160.trans (congrArg some (by kernel_rfl))
  f314 := Tryz.func164.trans (congrArg some (by kernel_rfl))
  t0 := Tryz.underlying0
  a0 := Tryz.isAgg0
  z0 := Tryz.sizeOf0
  v0 := Tryz.zeroValue0
  t3 := Tryz.underlying3
  a3 := Tryz.isAgg3
  z3 := Tryz.sizeOf3
  v3 := Tryz.zeroValue3
  t4 := Tryz.underlying4
  a4 := Tryz.isAgg4
  z4 := Tryz.sizeOf4
  v4 := Tryz.zeroValue4
  t5 := Tryz.underlying5
  a5 := Tryz.isAgg5
  z5 := Tryz.sizeOf5
  v5 := Tryz.zeroValue5
  t9 := Tryz.underlying9
  a9 := Tryz.isAgg9
  z9 := Tryz.sizeOf9
  v9 := Tryz.zeroValue9
  t46 := Tryz.underlying134
  a46 := Tryz.isAgg134
  z46 := Tryz.sizeOf134
  v46 := Tryz.zeroValue134
  t51 := Tryz.underlying150
  a51 := Tryz.isAgg150
  z51 := Tryz.sizeOf150
  v51 := Tryz.zeroValue150
  t146 := Tryz.underlying151
  a146 := Tryz.isAgg151
  z146 := Tryz.sizeOf151
  v146 := Tryz.zeroValue151
  g1 := by kernel_rfl }
def laysParseInt_ren : Go.Shelf.Ren := ⟨fun | 174 => 112 | 247 => 133 | 245 => 134 | 287 => 144 | 279 => 145 | 280 => 146 | 281 => 147 | 282 => 148 | 321 => 153 | 322 => 154 | 316 => 155 | 171 => 157 | 205 => 156 | 243 => 163 | 246 => 168 | 283 => 169 | 284 => 170 | 285 => 171 | 286 => 172 | 129 => 174 | 317 => 173 | 318 => 175 | 319 => 176 | 320 => 177 | 337 => 178 | 338 => 179 | n => n, fun | 9 => 9 | 3 => 3 | 2 => 2 | 75 => 117 | 85 => 118 | 4 => 4 | 167 => 130 | 5 => 5 | 53 => 131 | 175 => 132 | 46 => 134 | 168 => 135 | 37 => 140 | 0 => 0 | 210 => 142 | 21 => 21 | 127 => 146 | 145 => 149 | 143 => 147 | 171 => 154 | 173 => 157 | 212 => 160 | 51 => 150 | 20 => 20 | 213 => 161 | 232 => 164 | 233 => 165 | 80 => 84 | n => n, fun | 15 => 1 | 16 => 2 | 17 => 3 | 18 => 4 | 19 => 5 | n => n⟩
theorem laysParseInt : Go.Proofs.LaysC.n174 Tryz.prog laysParseInt_ren := {
  mixed := by kernel_rfl
  f129 := Tryz.func174.trans (congrArg some (by kernel_rfl))
  f171 := Tryz.func157.trans (congrArg some (by kernel_rfl))
  f174 := Tryz.func112.trans (congrArg some (by kernel_rfl))
  f205 := Tryz.func156.trans (congrArg some (by kernel_rfl))
  f243 := Tryz.func163.trans (congrArg some (by kernel_rfl))
  f245 := Tryz.func134.trans (congrArg some (by kernel_rfl))
  f246 := Tryz.func168.trans (congrArg some (by kernel_rfl))
  f247 := Tryz.func133.trans (congrArg some (by kernel_rfl))
  f279 := Tryz.func145.trans (congrArg some (by kernel_rfl))
  f280 := Tryz.func146.trans (congrArg some (by kernel_rfl))
  f281 := Tryz.func147.trans (congrArg some (by kernel_rfl))
  f282 := Tryz.func148.trans (congrArg some (by kernel_rfl))
  f283 := Tryz.func169.trans (congrArg some (by kernel_rfl))
  f284 := Tryz.func170.trans (congrArg some (by kernel_rfl))
  f285 := Tryz.func171.trans (congrArg some (by kernel_rfl))
  f286 := Tryz.func172.trans (congrArg some (by kernel_rfl))
  f287 := Tryz.func144.trans (congrArg some (by kernel_rfl))
  f316 := Tryz.func155.trans (congrArg some (by kernel_rfl))
  f317 := Tryz.func173.trans (congrArg some (by kernel_rfl))
  f318 := Tryz.func175.trans (congrArg some (by kernel_rfl))
  f319 := Tryz.func176.trans (congrArg some (by kernel_rfl))
  f320 := Tryz.func177.trans (congrArg some (by kernel_rfl))
  f321 := Tryz.func153.trans (congrArg some (by kernel_rfl))
  f322 := Tryz.func154.trans (congrArg some (by kernel_rfl))
  f337 := Tryz.func178.trans (congrArg some (by kernel_rfl))
  f338 := Tryz.func179.trans (congrArg some (by kernel_rfl))
  t0 := Tryz.underlying0
  a0 := Tryz.isAgg0
  z0 := Tryz.sizeOf0
  v0 := Tryz.zeroValue0
  t2 := Tryz.underlying2
  a2 := Tryz.isAgg2
  z2 := Tryz.sizeOf2
  v2 := Tryz.zeroValue2
  t3 := Tryz.underlying3
  a3 := Tryz.isAgg3
  z3 := Tryz.sizeOf3
  v3 := Tryz.zeroValue3
  t4 := Tryz.underlying4
  a4 := Tryz.isAgg4
  z4 := Tryz.sizeOf4
  v4 := Tryz.zeroValue4
  t5 := Tryz.underlying5
  a5 := Tryz.isAgg5
  z5 := Tryz.sizeOf5
  v5 := Tryz.zeroValue5
  t9 := Tryz.underlying9
  a9 := Tryz.isAgg9
  z9 := Tryz.sizeOf9
  v9 := Tryz.zeroValue9
  t20 := Tryz.underlying20
  a20 := Tryz.isAgg20
  z20 := Tryz.sizeOf20
  v20 := Tryz.zeroValue20
  t21 := Tryz.underlying21
  a21 := Tryz.isAgg21
  z21 := Tryz.sizeOf21
  v21 := Tryz.zeroValue21
  t37 := Tryz.underlying140
  a37 := Tryz.isAgg140
  z37 := Tryz.sizeOf140
  v37 := Tryz.zeroValue140
  t46 := Tryz.underlying134
  a46 := Tryz.isAgg134
  z46 := Tryz.sizeOf134
  v46 := Tryz.zeroValue134
  t51 := Tryz.underlying150
  a51 := Tryz.isAgg150
  z51 := Tryz.sizeOf150
  v51 := Tryz.zeroValue150
  t53 := Tryz.underlying131
  a53 := Tryz.isAgg131
  z53 := Tryz.sizeOf131
  v53 := Tryz.zeroValue131
  t75 := Tryz.underlying117
  a75 := Tryz.isAgg117
  z75 := Tryz.sizeOf117
  v75 := Tryz.zeroValue117
  t85 := Tryz.underlying118
  a85 := Tryz.isAgg118
  z85 := Tryz.sizeOf118
  v85 := Tryz.zeroValue118
  t127 := Tryz.underlying146
  a127 := Tryz.isAgg146
  z127 := Tryz.sizeOf146
  v127 := Tryz.zeroValue146
  t143 := Tryz.underlying147
  a143 := Tryz.isAgg147
  z143 := Tryz.sizeOf147
  v143 := Tryz.zeroValue147
  t145 := Tryz.underlying149
  a145 := Tryz.isAgg149
  z145 := Tryz.sizeOf149
  v145 := Tryz.zeroValue149
  t167 := Tryz.underlying130
  a167 := Tryz.isAgg130
  z167 := Tryz.sizeOf130
  v167 := Tryz.zeroValue130
  t168 := Tryz.underlying135
  a168 := Tryz.isAgg135
  z168 := Tryz.sizeOf135
  v168 := Tryz.zeroValue135
  t171 := Tryz.underlying154
  a171 := Tryz.isAgg154
  z171 := Tryz.sizeOf154
  v171 := Tryz.zeroValue154
  t173 := Tryz.underlying157
  a173 := Tryz.isAgg157
  z173 := Tryz.sizeOf157
  v173 := Tryz.zeroValue157
  t175 := Tryz.underlying132
  a175 := Tryz.isAgg132
  z175 := Tryz.sizeOf132
  v175 := Tryz.zeroValue132
  t210 := Tryz.underlying142
  a210 := Tryz.isAgg142
  z210 := Tryz.sizeOf142
  v210 := Tryz.zeroValue142
  t212 := Tryz.underlying160
  a212 := Tryz.isAgg160
  z212 := Tryz.sizeOf160
  v212 := Tryz.zeroValue160
  t213 := Tryz.underlying161
  a213 := Tryz.isAgg161
  z213 := Tryz.sizeOf161
  t232 := Tryz.underlying164
  a232 := Tryz.isAgg164
  z232 := Tryz.sizeOf164
  v232 := Tryz.zeroValue164
  t233 := Tryz.underlying165
  a233 := Tryz.isAgg165
  z233 := Tryz.sizeOf165
  v233 := Tryz.zeroValue165
  g15 := by kernel_rfl
  g16 := by kernel_rfl
  g17 := by kernel_rfl
  g18 := by kernel_rfl
  g19 := by kernel_rfl
  t80 := Tryz.underlying84
  a80 := Tryz.isAgg84
  z80 := Tryz.sizeOf84
  v80 := Tryz.zeroValue84
  i0 := by kernel_rfl
  i2 := by kernel_rfl
  i3 := by kernel_rfl
  i4 := by kernel_rfl
  i5 := by kernel_rfl
  i9 := by kernel_rfl
  i20 := by kernel_rfl
  i21 := by kernel_rfl
  i37 := by kernel_rfl
  i46 := by kernel_rfl
  i51 := by kernel_rfl
  i53 := by kernel_rfl
  i75 := by kernel_rfl
  i80 := by kernel_rfl
  i85 := by kernel_rfl
  i127 := by kernel_rfl
  i143 := by kernel_rfl
  i145 := by kernel_rfl
  i167 := by kernel_rfl
  i168 := by kernel_rfl
  i171 := by kernel_rfl
  i173 := by kernel_rfl
  i175 := by kernel_rfl
  i210 := by kernel_rfl
  i212 := by kernel_rfl
  i232 := by kernel_rfl
  i233 := by kernel_rfl
  m15 := by kernel_rfl
  m16 := by kernel_rfl
  m17 := by kernel_rfl
  m18 := by kernel_rfl
  m19 := by kernel_rfl
  c0 := by kernel_rfl
  c2 := by kernel_rfl
  c3 := by kernel_rfl
  c4 := by kernel_rfl
  c5 := by kernel_rfl
  c9 := by kernel_rfl
  c20 := by kernel_rfl
  c21 := by kernel_rfl
  c37 := by kernel_rfl
  c46 := by kernel_rfl
  c51 := by kernel_rfl
  c53 := by kernel_rfl
  c75 := by kernel_rfl
  c80 := by kernel_rfl
  c85 := by kernel_rfl
  c127 := by kernel_rfl
  c143 := by kernel_rfl
  c145 := by kernel_rfl
  c167 := by kernel_rfl
  c168 := by kernel_rfl
  c171 := by kernel_rfl
  c173 := by kernel_rfl
  c175 := by kernel_rfl
  c210 := by kernel_rfl
  c212 := by kernel_rfl
  c213 := by kernel_rfl
  c232 := by kernel_rfl
  c233 := by kernel_rfl }
theorem prefix_any (s p : ByteArray) (w : World) : Calls Tryz.prog 55 #[.string s, .string p] w fun e w' => e = .returned (.bool (p.data.toList.isPrefixOf s.data.toList)) ∧ w' = w :=
 Any.strings_HasPrefix laysPrefix s p w
theorem index_any (s : ByteArray) (c : UInt8) (w : World) : Calls Tryz.prog 56 #[.string s, .int .u8 (c.toNat : Int)] w fun e w' => e = .returned (.int .i64 (Lib.indexByte s.data.toList c)) ∧ w' = w := by
 have h := Any.strings_IndexByte laysIndexByte s (c.toNat : Int) w
 rw [show ((c.toNat : Int)).toNat.toUInt8 = c by simp] at h
 exact h
theorem count_any (s : ByteArray) (c : UInt8) (w : World) : Calls Tryz.prog 116 #[.string s, .string ⟨#[c]⟩] w fun e w' => e = .returned (.int .i64 (s.data.toList.count c)) ∧ w' = w :=
 Any.strings_Count_one laysCount s c w
end Go.Proofs.YtbhpnioggpgbhaaGreatDoor

namespace Go.Proofs.YtbhpnioggpgbhaaGreatDoor
open Go.RowKit Go.Shelf
set_option linter.unusedVariables false
set_option linter.unusedSimpArgs false
def numA (a : Nat) (l : List UInt8) : Nat := l.foldl (fun a c => a * 10 + (c.toNat - 48)) a
theorem numA_le (a : Nat) (l : List UInt8) : a ≤ numA a l := by
 induction l generalizing a with
 | nil => exact Nat.le_refl _
 | cons c r ih =>
  have h := ih (a * 10 + (c.toNat - 48))
  show a ≤ numA (a * 10 + (c.toNat - 48)) r
  omega
theorem numA_cons (a : Nat) (c : UInt8) (r : List UInt8) : numA a (c :: r) = numA (a * 10 + (c.toNat - 48)) r := by unfold numA; rw [List.foldl_cons]
theorem parseM_ok (l : List UInt8) (hd : ∀ c ∈ l, dig c = true) (M : Nat) (hM : M = 18446744073709551615) (a : Nat) (h : numA a l ≤ M) : Lib.parseUintM M a l = .ok (numA a l) := by
 induction l generalizing a with
 | nil => unfold Lib.parseUintM; unfold numA; rw [List.foldl_nil]
 | cons c r ih =>
  have h1 := hd c (by simp)
  unfold dig at h1
  simp only [Bool.and_eq_true, decide_eq_true_eq] at h1
  rw [numA_cons] at h ⊢
  have h2 := numA_le (a * 10 + (c.toNat - 48)) r
  have hr := ih (fun d hd2 => hd d (by simp [hd2])) _ h
  have h3 : ¬ 1844674407370955162 ≤ a := fun h5 => by omega
  have h4 : ¬ M < a * 10 + (c.toNat - 48) := fun h5 => by omega
  unfold Lib.parseUintM
  rw [if_pos h1, if_neg h3, if_neg h4]
  exact hr
theorem parseM_range (l : List UInt8) (hd : ∀ c ∈ l, dig c = true) (M : Nat) (hM : M = 18446744073709551615) (a : Nat) (ha : a ≤ M) (h : M < numA a l) : Lib.parseUintM M a l = .range := by
 induction l generalizing a with
 | nil => exact absurd h (by show ¬ M < a; omega)
 | cons c r ih =>
  have h1 := hd c (by simp)
  unfold dig at h1
  simp only [Bool.and_eq_true, decide_eq_true_eq] at h1
  rw [numA_cons] at h
  unfold Lib.parseUintM
  rw [if_pos h1]
  by_cases h2 : 1844674407370955162 ≤ a
  ·rw [if_pos h2]
  ·rw [if_neg h2]
   by_cases h3 : M < a * 10 + (c.toNat - 48)
   ·rw [if_pos h3]
   ·rw [if_neg h3]
    exact ih (fun d hd2 => hd d (by simp [hd2])) _ (by omega) h
theorem parse_digits (l : List UInt8) (hne : l ≠ []) (hd : ∀ c ∈ l, dig c = true) : Lib.parseIntB 64 l = if numV l ≤ 9223372036854775807 then .ok ((numV l : Nat) : Int) else .range := by
 obtain ⟨c, r, rfl⟩ := List.exists_cons_of_ne_nil hne
 have h1 := hd c (by simp)
 unfold dig at h1
 simp only [Bool.and_eq_true, decide_eq_true_eq] at h1
 have e1 : ¬ c.toNat = 45 := by omega
 have e2 : ¬ (c.toNat = 43 ∨ c.toNat = 45) := by omega
 unfold Lib.parseIntB
 simp only [if_neg e2]
 unfold Lib.parseUintB
 rw [if_neg hne]
 obtain ⟨M, hM⟩ : ∃ M : Nat, M = 2 ^ 64 - 1 := ⟨_, rfl⟩
 have hM2 : M = 18446744073709551615 := by rw [hM]
 rw [← hM]
 have hv : numV (c :: r) = numA 0 (c :: r) := rfl
 by_cases h : numA 0 (c :: r) ≤ M
 ·rw [parseM_ok _ hd M hM2 0 h]
  rw [hv]
  by_cases h2 : numA 0 (c :: r) ≤ 9223372036854775807
  ·rw [if_pos h2]
   simp only [e1, not_false_eq_true, true_and, false_and, if_false]
   rw [if_neg (by omega)]
  ·rw [if_neg h2]
   simp only [e1, not_false_eq_true, true_and, false_and, if_false]
   rw [if_pos (by omega)]
 ·rw [parseM_range _ hd M hM2 0 (by omega) (by omega)]
  rw [hv, if_neg (by omega)]
/-- The library's variable for numbers that are too great holds an error. -/
def ErrW (w : World) : Prop := ∃ b tp p, Tryz.prog.globalNamed "strconv.ErrRange" = some b ∧ b < w.heap.size ∧ w.var? Tryz.prog "strconv.ErrRange" = some #[.iface tp p]
theorem ErrW.keep {w w' : World} (h : ErrW w) (hk : Keeps (fun _ => False) w w') : ErrW w' := by
 obtain ⟨b, tp, p, hg, hb, hv⟩ := h
 refine ⟨b, tp, p, hg, Nat.lt_of_lt_of_le hb hk.size, ?_⟩
 unfold World.var? at hv ⊢
 rw [hg] at hv ⊢
 simp only [Option.bind_some] at hv ⊢
 rw [hk.block b hb (fun h => h)]
 exact hv
theorem keeps_bytes (w : World) (t5 : TypeId) (t : ByteArray) (w' : World) (h : w' = w ∨ ∃ t, w' = Lib.bytesWorld w t5 t) : Keeps (fun _ => False) w w' := by
 rcases h with rfl | ⟨t, rfl⟩
 ·exact Keeps.refl _ _
 ·exact Keeps.ofBelow (Lib.bytesWorld_below _ _ _)
/-- ParseInt at digits. -/
theorem parse_any (s : ByteArray) (hs : s.size ≤ 1000) (hne : s.data.toList ≠ []) (hd : ∀ c ∈ s.data.toList, dig c = true) (w : World) (he : ErrW w) :
  Calls Tryz.prog 112 #[.string s, .int .i64 10, .int .i64 64] w fun e w' => (∃ v x, e = .returned (.tuple #[.int .i64 v, x]) ∧ ((numV s.data.toList ≤ 9223372036854775807 ∧ x = .nilIface) ∨ (¬ numV s.data.toList ≤ 9223372036854775807 ∧ ∃ tp p, x = .iface tp p))) ∧ Keeps (fun _ => False) w w' := by
 have hp := parse_digits s.data.toList hne hd
 by_cases h : numV s.data.toList ≤ 9223372036854775807
 ·rw [if_pos h] at hp
  exact (Any.strconv_ParseInt_10_at64_ok laysParseInt s (by omega) _ hp w).mono fun e w' ⟨e1, e2⟩ => ⟨⟨_, _, e1, .inl ⟨h, rfl⟩⟩, keeps_bytes w _ s w' e2⟩
 ·rw [if_neg h] at hp
  obtain ⟨b, tp, p, hg, hb, hv⟩ := he
  exact (Any.strconv_ParseInt_10_at64_range_var laysParseInt s (by omega) hp tp p w hv).mono fun e w' ⟨N, e1, e2, e3, e4⟩ => ⟨⟨_, _, e1, .inr ⟨h, _, _, rfl⟩⟩, Keeps.ofBelow e4⟩
set_option maxHeartbeats 2000000 in
theorem number_any (s : ByteArray) (hs : s.size ≤ 1000) (h1 : 1 ≤ runL dig s.data.toList) (w : World) (he : ErrW w) : Calls Tryz.prog 85 #[.string s] w fun e w' => e = .returned (.tuple #[.int .i64 ((numberL s.data.toList).1 : Nat), .int .i64 ((numberL s.data.toList).2.1 : Nat), .int .i64 ((numberL s.data.toList).2.2 : Nat)]) ∧ Keeps (fun _ => False) w w' := by
 have RC := Lib.hid (run_any 84 dig tells_dig enter66 s hs w)
 obtain ⟨n, hn⟩ : ∃ n : Nat, n = runL dig s.data.toList := ⟨_, rfl⟩
 have hle : n ≤ s.size := by rw [hn, ← len_size]; exact runL_le _ _
 have hall := runL_all dig s.data.toList
 rw [← hn] at h1 hall RC
 have PC : Hid (∀ w1, Keeps (fun _ => False) w w1 → Calls Tryz.prog 112 #[.string (s.extract 0 n), .int .i64 10, .int .i64 64] w1 fun e w' => (∃ v x, e = .returned (.tuple #[.int .i64 v, x]) ∧ ((numV (s.data.toList.take n) ≤ 9223372036854775807 ∧ x = .nilIface) ∨ (¬ numV (s.data.toList.take n) ≤ 9223372036854775807 ∧ ∃ tp p, x = .iface tp p))) ∧ Keeps (fun _ => False) w1 w') := fun w1 hk => by
  have hl : (s.data.toList.take n).length = n := by rw [List.length_take, len_size]; omega
  have h := parse_any (s.extract 0 n) (by rw [ext_size s n hle]; omega) (by rw [ext_take]; intro e; rw [e] at hl; simp at hl; omega) (by rw [ext_take]; exact hall) w1 (he.keep hk)
  rw [ext_take] at h
  exact h
 have hv : numberL s.data.toList = if numV (s.data.toList.take n) ≤ 9223372036854775807 ∧ n ≤ 19 then (1, n, 0) else (0, 0, 12) := by unfold numberL; rw [← hn]
 rw [hv]
 have hleI : (n : Int) ≤ (s.size : Int) := by omega
 have hn0 : (0 : Int) ≤ (n : Int) := by omega
 clear hv hn hall he
 by_cases hnum : numV (s.data.toList.take n) ≤ 9223372036854775807
 ·have PC : Hid (∀ w1, Keeps (fun _ => False) w w1 → Calls Tryz.prog 112 #[.string (s.extract 0 n), .int .i64 10, .int .i64 64] w1 fun e w' => (∃ v, e = .returned (.tuple #[.int .i64 v, .nilIface])) ∧ Keeps (fun _ => False) w1 w') := fun w1 hk => (PC.out w1 hk).mono fun e w' h => by
   obtain ⟨⟨v, x, e1, h2⟩, h3⟩ := h
   rcases h2 with ⟨_, rfl⟩ | ⟨h4, _⟩
   ·exact ⟨⟨v, e1⟩, h3⟩
   ·exact absurd hnum h4
  by_cases h19 : n ≤ 19
  ·have h19I : ¬ (19 : Int) < (n : Int) := by omega
   have hd : decide ((19 : Int) < (n : Int)) = false := decide_eq_false h19I
   rw [if_pos ⟨hnum, h19⟩]
   clear hnum
   go_enter Tryz.func85, Tryz.ntmps85
   go_wp2_with fail
   refine RC.out.mono ?_
   rintro e w1 ⟨rfl, k1⟩
   have P1 := Lib.hid (PC.out w1 k1)
   have K1 := Lib.hid k1
   clear k1
   go_wp2_with fail
   refine P1.out.mono ?_
   rintro e w2 ⟨⟨v, rfl⟩, k2⟩
   have K2 := Lib.hid (K1.out.trans k2 (fun _ _ h => h))
   clear k2
   go_wp2
   go_ret3
   exact ⟨rfl, K2.out⟩
  ·have h19I : (19 : Int) < (n : Int) := by omega
   have hd : decide ((19 : Int) < (n : Int)) = true := decide_eq_true h19I
   rw [if_neg (fun h => h19 h.2)]
   clear hnum
   go_enter Tryz.func85, Tryz.ntmps85
   go_wp2_with fail
   refine RC.out.mono ?_
   rintro e w1 ⟨rfl, k1⟩
   have P1 := Lib.hid (PC.out w1 k1)
   have K1 := Lib.hid k1
   clear k1
   go_wp2_with fail
   refine P1.out.mono ?_
   rintro e w2 ⟨⟨v, rfl⟩, k2⟩
   have K2 := Lib.hid (K1.out.trans k2 (fun _ _ h => h))
   clear k2
   go_wp2
   go_ret3
   exact ⟨rfl, K2.out⟩
 ·have PC : Hid (∀ w1, Keeps (fun _ => False) w w1 → Calls Tryz.prog 112 #[.string (s.extract 0 n), .int .i64 10, .int .i64 64] w1 fun e w' => (∃ v tp p, e = .returned (.tuple #[.int .i64 v, .iface tp p])) ∧ Keeps (fun _ => False) w1 w') := fun w1 hk => (PC.out w1 hk).mono fun e w' h => by
   obtain ⟨⟨v, x, e1, h2⟩, h3⟩ := h
   rcases h2 with ⟨h4, _⟩ | ⟨_, tp, p, rfl⟩
   ·exact absurd h4 hnum
   ·exact ⟨⟨v, tp, p, e1⟩, h3⟩
  rw [if_neg (fun h => hnum h.1)]
  clear hnum
  go_enter Tryz.func85, Tryz.ntmps85
  go_wp2_with fail
  refine RC.out.mono ?_
  rintro e w1 ⟨rfl, k1⟩
  have P1 := Lib.hid (PC.out w1 k1)
  have K1 := Lib.hid k1
  clear k1
  go_wp2_with fail
  refine P1.out.mono ?_
  rintro e w2 ⟨⟨v, tp, p, rfl⟩, k2⟩
  have K2 := Lib.hid (K1.out.trans k2 (fun _ _ h => h))
  clear k2
  go_wp2
  go_ret3
  exact ⟨rfl, K2.out⟩
end Go.Proofs.YtbhpnioggpgbhaaGreatDoor
