/-
  Layer 1: the contracts of Word, name, text, said. Written by an AI agent.
-/
import Derived.Test.YtgelggdgbmldiaaDoorLxF
namespace Go.Proofs.YtgelggdgbmldiaaDoor
open Go.RowKit
set_option linter.unusedVariables false
set_option linter.unusedSimpArgs false

theorem toList_data (s : ByteArray) : s.toList = s.data.toList := Lib.toList_data s
theorem bytes_ext {a b : ByteArray} (h : a.data.toList = b.data.toList) : a = b := by
  obtain ⟨x⟩ := a
  obtain ⟨y⟩ := b
  have : x = y := Array.toList_inj.1 h
  rw [this]
theorem ext_take (s : ByteArray) (k : Nat) : (s.extract 0 k).data.toList = s.data.toList.take k := by simp
theorem ext_drop (s : ByteArray) (k : Nat) : (s.extract k s.size).data.toList = s.data.toList.drop k := by
  simp
  rw [List.take_of_length_le]
  have : s.data.toList.length = s.size := by simp
  rw [List.length_drop, this]
  exact Nat.le_refl _
theorem ext_size (s : ByteArray) (k : Nat) (h : k ≤ s.size) : (s.extract 0 k).size = k := by simp; omega
theorem ext_size2 (s : ByteArray) (k : Nat) : (s.extract k s.size).size = s.size - k := by simp
theorem len_size (s : ByteArray) : s.data.toList.length = s.size := by simp

theorem isWord_iff (l : List UInt8) : isWord l = true ↔ l = [102, 110] ∨ l = [108, 101, 116] ∨ l = [105, 102] ∨ l = [101, 108, 115, 101] ∨ l = [119, 104, 105, 108, 101] ∨ l = [114, 101, 116, 117, 114, 110] ∨ l = [112, 114, 105, 110, 116] ∨ l = [105, 110, 112, 117, 116] ∨ l = [110, 101, 119] ∨ l = [108, 101, 110] ∨ l = [116, 114, 117, 101] ∨ l = [102, 97, 108, 115, 101] ∨ l = [105, 110, 116] ∨ l = [98, 111, 111, 108] ∨ l = [116, 101, 120, 116] ∨ l = [108, 105, 115, 116] := by
  unfold isWord
  rw [List.contains_iff_mem]
  simp only [wordsL, List.mem_cons, List.not_mem_nil, or_false]

theorem word_beq (s : ByteArray) (l : List UInt8) : (s.toList == l) = decide (s.data.toList = l) := by
  rw [toList_data, Bool.eq_iff_iff]
  simp

set_option maxHeartbeats 1000000 in
theorem word_at0 (w : World) : Calls Tryd.prog 107 #[.string { data := #[102, 110] }] w fun e w' => e = .returned (.bool true) ∧ Keeps (fun _ => False) w w' := by
  go_enter Tryd.func107, Tryd.ntmps107
  go_wp2
  go_ret
  exact ⟨rfl, Keeps.refl _ _⟩
set_option maxHeartbeats 1000000 in
theorem word_at1 (w : World) : Calls Tryd.prog 107 #[.string { data := #[108, 101, 116] }] w fun e w' => e = .returned (.bool true) ∧ Keeps (fun _ => False) w w' := by
  go_enter Tryd.func107, Tryd.ntmps107
  go_wp2
  go_ret
  exact ⟨rfl, Keeps.refl _ _⟩
set_option maxHeartbeats 1000000 in
theorem word_at2 (w : World) : Calls Tryd.prog 107 #[.string { data := #[105, 102] }] w fun e w' => e = .returned (.bool true) ∧ Keeps (fun _ => False) w w' := by
  go_enter Tryd.func107, Tryd.ntmps107
  go_wp2
  go_ret
  exact ⟨rfl, Keeps.refl _ _⟩
set_option maxHeartbeats 1000000 in
theorem word_at3 (w : World) : Calls Tryd.prog 107 #[.string { data := #[101, 108, 115, 101] }] w fun e w' => e = .returned (.bool true) ∧ Keeps (fun _ => False) w w' := by
  go_enter Tryd.func107, Tryd.ntmps107
  go_wp2
  go_ret
  exact ⟨rfl, Keeps.refl _ _⟩
set_option maxHeartbeats 1000000 in
theorem word_at4 (w : World) : Calls Tryd.prog 107 #[.string { data := #[119, 104, 105, 108, 101] }] w fun e w' => e = .returned (.bool true) ∧ Keeps (fun _ => False) w w' := by
  go_enter Tryd.func107, Tryd.ntmps107
  go_wp2
  go_ret
  exact ⟨rfl, Keeps.refl _ _⟩
set_option maxHeartbeats 1000000 in
theorem word_at5 (w : World) : Calls Tryd.prog 107 #[.string { data := #[114, 101, 116, 117, 114, 110] }] w fun e w' => e = .returned (.bool true) ∧ Keeps (fun _ => False) w w' := by
  go_enter Tryd.func107, Tryd.ntmps107
  go_wp2
  go_ret
  exact ⟨rfl, Keeps.refl _ _⟩
set_option maxHeartbeats 1000000 in
theorem word_at6 (w : World) : Calls Tryd.prog 107 #[.string { data := #[112, 114, 105, 110, 116] }] w fun e w' => e = .returned (.bool true) ∧ Keeps (fun _ => False) w w' := by
  go_enter Tryd.func107, Tryd.ntmps107
  go_wp2
  go_ret
  exact ⟨rfl, Keeps.refl _ _⟩
set_option maxHeartbeats 1000000 in
theorem word_at7 (w : World) : Calls Tryd.prog 107 #[.string { data := #[105, 110, 112, 117, 116] }] w fun e w' => e = .returned (.bool true) ∧ Keeps (fun _ => False) w w' := by
  go_enter Tryd.func107, Tryd.ntmps107
  go_wp2
  go_ret
  exact ⟨rfl, Keeps.refl _ _⟩
set_option maxHeartbeats 1000000 in
theorem word_at8 (w : World) : Calls Tryd.prog 107 #[.string { data := #[110, 101, 119] }] w fun e w' => e = .returned (.bool true) ∧ Keeps (fun _ => False) w w' := by
  go_enter Tryd.func107, Tryd.ntmps107
  go_wp2
  go_ret
  exact ⟨rfl, Keeps.refl _ _⟩
set_option maxHeartbeats 1000000 in
theorem word_at9 (w : World) : Calls Tryd.prog 107 #[.string { data := #[108, 101, 110] }] w fun e w' => e = .returned (.bool true) ∧ Keeps (fun _ => False) w w' := by
  go_enter Tryd.func107, Tryd.ntmps107
  go_wp2
  go_ret
  exact ⟨rfl, Keeps.refl _ _⟩
set_option maxHeartbeats 1000000 in
theorem word_at10 (w : World) : Calls Tryd.prog 107 #[.string { data := #[116, 114, 117, 101] }] w fun e w' => e = .returned (.bool true) ∧ Keeps (fun _ => False) w w' := by
  go_enter Tryd.func107, Tryd.ntmps107
  go_wp2
  go_ret
  exact ⟨rfl, Keeps.refl _ _⟩
set_option maxHeartbeats 1000000 in
theorem word_at11 (w : World) : Calls Tryd.prog 107 #[.string { data := #[102, 97, 108, 115, 101] }] w fun e w' => e = .returned (.bool true) ∧ Keeps (fun _ => False) w w' := by
  go_enter Tryd.func107, Tryd.ntmps107
  go_wp2
  go_ret
  exact ⟨rfl, Keeps.refl _ _⟩
set_option maxHeartbeats 1000000 in
theorem word_at12 (w : World) : Calls Tryd.prog 107 #[.string { data := #[105, 110, 116] }] w fun e w' => e = .returned (.bool true) ∧ Keeps (fun _ => False) w w' := by
  go_enter Tryd.func107, Tryd.ntmps107
  go_wp2
  go_ret
  exact ⟨rfl, Keeps.refl _ _⟩
set_option maxHeartbeats 1000000 in
theorem word_at13 (w : World) : Calls Tryd.prog 107 #[.string { data := #[98, 111, 111, 108] }] w fun e w' => e = .returned (.bool true) ∧ Keeps (fun _ => False) w w' := by
  go_enter Tryd.func107, Tryd.ntmps107
  go_wp2
  go_ret
  exact ⟨rfl, Keeps.refl _ _⟩
set_option maxHeartbeats 1000000 in
theorem word_at14 (w : World) : Calls Tryd.prog 107 #[.string { data := #[116, 101, 120, 116] }] w fun e w' => e = .returned (.bool true) ∧ Keeps (fun _ => False) w w' := by
  go_enter Tryd.func107, Tryd.ntmps107
  go_wp2
  go_ret
  exact ⟨rfl, Keeps.refl _ _⟩
set_option maxHeartbeats 1000000 in
theorem word_at15 (w : World) : Calls Tryd.prog 107 #[.string { data := #[108, 105, 115, 116] }] w fun e w' => e = .returned (.bool true) ∧ Keeps (fun _ => False) w w' := by
  go_enter Tryd.func107, Tryd.ntmps107
  go_wp2
  go_ret
  exact ⟨rfl, Keeps.refl _ _⟩
set_option maxHeartbeats 4000000 in
theorem word_no (s : ByteArray) (h : isWord s.data.toList = false) (w : World) : Calls Tryd.prog 107 #[.string s] w fun e w' => e = .returned (.bool false) ∧ Keeps (fun _ => False) w w' := by
  have h2 : ¬ isWord s.data.toList = true := by rw [h]; decide
  rw [isWord_iff] at h2
  simp only [not_or] at h2
  obtain ⟨q0, q1, q2, q3, q4, q5, q6, q7, q8, q9, q10, q11, q12, q13, q14, q15⟩ := h2
  have r0 : (s.toList == [102, 110]) = false := by rw [word_beq]; exact decide_eq_false q0
  have r1 : (s.toList == [108, 101, 116]) = false := by rw [word_beq]; exact decide_eq_false q1
  have r2 : (s.toList == [105, 102]) = false := by rw [word_beq]; exact decide_eq_false q2
  have r3 : (s.toList == [101, 108, 115, 101]) = false := by rw [word_beq]; exact decide_eq_false q3
  have r4 : (s.toList == [119, 104, 105, 108, 101]) = false := by rw [word_beq]; exact decide_eq_false q4
  have r5 : (s.toList == [114, 101, 116, 117, 114, 110]) = false := by rw [word_beq]; exact decide_eq_false q5
  have r6 : (s.toList == [112, 114, 105, 110, 116]) = false := by rw [word_beq]; exact decide_eq_false q6
  have r7 : (s.toList == [105, 110, 112, 117, 116]) = false := by rw [word_beq]; exact decide_eq_false q7
  have r8 : (s.toList == [110, 101, 119]) = false := by rw [word_beq]; exact decide_eq_false q8
  have r9 : (s.toList == [108, 101, 110]) = false := by rw [word_beq]; exact decide_eq_false q9
  have r10 : (s.toList == [116, 114, 117, 101]) = false := by rw [word_beq]; exact decide_eq_false q10
  have r11 : (s.toList == [102, 97, 108, 115, 101]) = false := by rw [word_beq]; exact decide_eq_false q11
  have r12 : (s.toList == [105, 110, 116]) = false := by rw [word_beq]; exact decide_eq_false q12
  have r13 : (s.toList == [98, 111, 111, 108]) = false := by rw [word_beq]; exact decide_eq_false q13
  have r14 : (s.toList == [116, 101, 120, 116]) = false := by rw [word_beq]; exact decide_eq_false q14
  have r15 : (s.toList == [108, 105, 115, 116]) = false := by rw [word_beq]; exact decide_eq_false q15
  clear h q0 q1 q2 q3 q4 q5 q6 q7 q8 q9 q10 q11 q12 q13 q14 q15
  go_enter Tryd.func107, Tryd.ntmps107
  go_wp2
  go_ret
  exact ⟨rfl, Keeps.refl _ _⟩

theorem word_any (s : ByteArray) (w : World) : Calls Tryd.prog 107 #[.string s] w fun e w' => e = .returned (.bool (isWord s.data.toList)) ∧ Keeps (fun _ => False) w w' := by
  cases h : isWord s.data.toList with
  | false => exact word_no s h w
  | true =>
    rw [isWord_iff] at h
    rcases h with h | h | h | h | h | h | h | h | h | h | h | h | h | h | h | h
    · rw [show s = { data := #[102, 110] } from bytes_ext h]; exact word_at0 w
    · rw [show s = { data := #[108, 101, 116] } from bytes_ext h]; exact word_at1 w
    · rw [show s = { data := #[105, 102] } from bytes_ext h]; exact word_at2 w
    · rw [show s = { data := #[101, 108, 115, 101] } from bytes_ext h]; exact word_at3 w
    · rw [show s = { data := #[119, 104, 105, 108, 101] } from bytes_ext h]; exact word_at4 w
    · rw [show s = { data := #[114, 101, 116, 117, 114, 110] } from bytes_ext h]; exact word_at5 w
    · rw [show s = { data := #[112, 114, 105, 110, 116] } from bytes_ext h]; exact word_at6 w
    · rw [show s = { data := #[105, 110, 112, 117, 116] } from bytes_ext h]; exact word_at7 w
    · rw [show s = { data := #[110, 101, 119] } from bytes_ext h]; exact word_at8 w
    · rw [show s = { data := #[108, 101, 110] } from bytes_ext h]; exact word_at9 w
    · rw [show s = { data := #[116, 114, 117, 101] } from bytes_ext h]; exact word_at10 w
    · rw [show s = { data := #[102, 97, 108, 115, 101] } from bytes_ext h]; exact word_at11 w
    · rw [show s = { data := #[105, 110, 116] } from bytes_ext h]; exact word_at12 w
    · rw [show s = { data := #[98, 111, 111, 108] } from bytes_ext h]; exact word_at13 w
    · rw [show s = { data := #[116, 101, 120, 116] } from bytes_ext h]; exact word_at14 w
    · rw [show s = { data := #[108, 105, 115, 116] } from bytes_ext h]; exact word_at15 w

set_option maxHeartbeats 2000000 in
theorem name_any (s : ByteArray) (hs : s.size ≤ 1000) (w : World) : Calls Tryd.prog 75 #[.string s] w fun e w' => e = .returned (.tuple #[.int .i64 ((nameL s.data.toList).1 : Nat), .int .i64 ((nameL s.data.toList).2.1 : Nat), .int .i64 ((nameL s.data.toList).2.2 : Nat)]) ∧ Keeps (fun _ => False) w w' := by
  have RC := Lib.hid (run_any 106 nmc tells_nmc enter91 s hs w)
  obtain ⟨n, hn⟩ : ∃ n : Nat, n = runL nmc s.data.toList := ⟨_, rfl⟩
  have hle : n ≤ s.size := by rw [hn, ← len_size]; exact runL_le _ _
  have WC : Hid (∀ w, Calls Tryd.prog 107 #[.string (s.extract 0 n)] w fun e w' => e = .returned (.bool (isWord (s.data.toList.take n))) ∧ Keeps (fun _ => False) w w') := fun w => by
    have h := word_any (s.extract 0 n) w
    rw [ext_take] at h
    exact h
  have hv : nameL s.data.toList = if isWord (s.data.toList.take n) then (4, n, 0) else if 8 < n then (0, 0, 13) else (3, n, 0) := by unfold nameL; rw [← hn]
  rw [← hn] at RC
  rw [hv]
  clear hv hn
  have hleI : (n : Int) ≤ (s.size : Int) := by omega
  have hn0 : (0 : Int) ≤ (n : Int) := by omega
  cases hw : isWord (s.data.toList.take n) with
  | true =>
    rw [hw] at WC
    clear hw
    go_enter Tryd.func75, Tryd.ntmps75
    go_wp2_with fail
    refine RC.out.mono ?_
    rintro e w1 ⟨rfl, k1⟩
    have K1 := Lib.hid k1
    have WC1 := Lib.hid (WC.out w1)
    clear k1
    go_wp2_with fail
    refine WC1.out.mono ?_
    rintro e w2 ⟨rfl, k2⟩
    have K2 := Lib.hid (K1.out.trans k2 (fun _ _ h => h))
    clear k2
    go_wp2
    go_ret3
    exact ⟨rfl, K2.out⟩
  | false =>
    rw [hw] at WC
    clear hw
    by_cases h8 : 8 < n
    · have h8I : (8 : Int) < (n : Int) := by omega
      have hd : decide ((8 : Int) < (n : Int)) = true := decide_eq_true h8I
      rw [if_pos h8]
      go_enter Tryd.func75, Tryd.ntmps75
      go_wp2_with fail
      refine RC.out.mono ?_
      rintro e w1 ⟨rfl, k1⟩
      have K1 := Lib.hid k1
      have WC1 := Lib.hid (WC.out w1)
      clear k1
      go_wp2_with fail
      refine WC1.out.mono ?_
      rintro e w2 ⟨rfl, k2⟩
      have K2 := Lib.hid (K1.out.trans k2 (fun _ _ h => h))
      clear k2
      go_wp2
      go_ret3
      exact ⟨rfl, K2.out⟩
    · have h8I : ¬ (8 : Int) < (n : Int) := by omega
      have hd : decide ((8 : Int) < (n : Int)) = false := decide_eq_false h8I
      rw [if_neg h8]
      go_enter Tryd.func75, Tryd.ntmps75
      go_wp2_with fail
      refine RC.out.mono ?_
      rintro e w1 ⟨rfl, k1⟩
      have K1 := Lib.hid k1
      have WC1 := Lib.hid (WC.out w1)
      clear k1
      go_wp2_with fail
      refine WC1.out.mono ?_
      rintro e w2 ⟨rfl, k2⟩
      have K2 := Lib.hid (K1.out.trans k2 (fun _ _ h => h))
      clear k2
      go_wp2
      go_ret3
      exact ⟨rfl, K2.out⟩

set_option maxHeartbeats 2000000 in
theorem text_any (s : ByteArray) (hs : s.size ≤ 1000) (h1 : 1 ≤ s.size) (w : World) : Calls Tryd.prog 76 #[.string s] w fun e w' => e = .returned (.tuple #[.int .i64 ((textL (s.data.toList.drop 1)).1 : Nat), .int .i64 ((textL (s.data.toList.drop 1)).2.1 : Nat), .int .i64 ((textL (s.data.toList.drop 1)).2.2 : Nat)]) ∧ Keeps (fun _ => False) w w' := by
  have RC := Lib.hid (run_any 108 txc tells_txc enter92 (s.extract 1 s.size) (by rw [ext_size2]; omega) w)
  rw [ext_drop] at RC
  obtain ⟨n, hn⟩ : ∃ n : Nat, n = runL txc (s.data.toList.drop 1) := ⟨_, rfl⟩
  have hle : n + 1 ≤ s.size := by have := runL_le txc (s.data.toList.drop 1); rw [List.length_drop, len_size] at this; omega
  have hv : textL (s.data.toList.drop 1) = if (s.data.toList.drop 1)[n]? = some 34 then (if 12 < n then (0, 0, 4) else (2, n + 2, 0)) else (0, 0, 11) := by unfold textL; rw [← hn]
  rw [← hn] at RC
  rw [hv]
  have hsz : 1 ≤ (s.size : Int) := by omega
  have hleI : (n : Int) + 1 ≤ (s.size : Int) := by omega
  have hleJ : 1 + (n : Int) ≤ (s.size : Int) := by omega
  have hn0 : (0 : Int) ≤ (n : Int) := by omega
  have hn1 : (0 : Int) ≤ 1 + (n : Int) := by omega
  have sw : IntKind.i64.wrap (1 + (n : Int)) = 1 + (n : Int) := IntWalk.i64_in _ (by omega)
  have tn : (1 + (n : Int)).toNat = n + 1 := by omega
  rw [List.getElem?_drop, show 1 + n = n + 1 by omega]
  clear hv hn
  by_cases hend : n + 1 = s.size
  · have hq : ¬ s.data.toList[n + 1]? = some 34 := by rw [List.getElem?_eq_none (by rw [len_size]; omega)]; simp
    have he : ((1 + (n : Int)) == (s.size : Int)) = true := by simp; omega
    have HE := Lib.hid hend
    rw [if_neg hq]
    clear hq hend
    go_enter Tryd.func76, Tryd.ntmps76
    go_wp2_with fail
    refine RC.out.mono ?_
    rintro e w1 ⟨rfl, k1⟩
    have K1 := Lib.hid k1
    clear k1
    go_wp2
    go_ret3
    exact ⟨rfl, K1.out⟩
  · have hlt : n + 1 < s.size := by omega
    have hltI : 1 + (n : Int) < (s.size : Int) := by omega
    have he : ((1 + (n : Int)) == (s.size : Int)) = false := by simp; omega
    obtain ⟨c, hc⟩ : ∃ c : UInt8, c = s[n + 1] := ⟨_, rfl⟩
    rw [at_byte s (n + 1) hlt, ← hc]
    have HC := Lib.hid hc
    clear hc
    by_cases hq : c = 34
    · subst hq
      rw [if_pos rfl]
      have hb : ((s[n + 1].toNat : Int) != 34) = false := by rw [← HC.out]; rfl
      by_cases h12 : 12 < n
      · have h12I : (12 : Int) < (n : Int) := by omega
        have hd : decide ((12 : Int) < (n : Int)) = true := decide_eq_true h12I
        rw [if_pos h12]
        go_enter Tryd.func76, Tryd.ntmps76
        go_wp2_with fail
        refine RC.out.mono ?_
        rintro e w1 ⟨rfl, k1⟩
        have K1 := Lib.hid k1
        clear k1
        go_wp2
        go_ret3
        exact ⟨rfl, K1.out⟩
      · have h12I : ¬ (12 : Int) < (n : Int) := by omega
        have hd : decide ((12 : Int) < (n : Int)) = false := decide_eq_false h12I
        have sw2 : IntKind.i64.wrap (1 + (n : Int) + 1) = (n : Int) + 2 := by rw [IntWalk.i64_in _ (by omega)]; omega
        have e2 : ((n + 2 : Nat) : Int) = 1 + (n : Int) + 1 := by omega
        rw [if_neg h12]
        show Calls Tryd.prog 76 #[.string s] w fun e w' => e = .returned (.tuple #[.int .i64 ((2 : Nat) : Int), .int .i64 ((n + 2 : Nat) : Int), .int .i64 ((0 : Nat) : Int)]) ∧ Keeps (fun _ => False) w w'
        rw [e2]
        have E2 := Lib.hid sw2
        clear sw2 e2
        go_enter Tryd.func76, Tryd.ntmps76
        go_wp2_with fail
        refine RC.out.mono ?_
        rintro e w1 ⟨rfl, k1⟩
        have K1 := Lib.hid k1
        clear k1
        go_wp2
        go_ret3
        exact ⟨rfl, K1.out⟩
    · have hb : ((s[n + 1].toNat : Int) != 34) = true := by
        rw [← HC.out]
        have h34 : c.toNat ≠ 34 := fun h => hq (UInt8.toNat_inj.1 (h.trans (show 34 = (34 : UInt8).toNat from rfl)))
        exact bne_iff_ne.2 (fun h => h34 (by omega))
      rw [if_neg (fun h => hq (Option.some.inj h))]
      go_enter Tryd.func76, Tryd.ntmps76
      go_wp2_with fail
      refine RC.out.mono ?_
      rintro e w1 ⟨rfl, k1⟩
      have K1 := Lib.hid k1
      clear k1
      go_wp2
      go_ret3
      exact ⟨rfl, K1.out⟩

set_option maxHeartbeats 1000000 in
theorem said_text (s : ByteArray) (h2 : 2 ≤ s.size) (hs : s.size ≤ 1000) (w : World) : Calls Tryd.prog 47 #[.int .i64 2, .string s] w fun e w' => e = .returned (.string (s.extract 1 (s.size - 1))) ∧ Keeps (fun _ => False) w w' := by
  have e1 : (1 : Int) ≤ (s.size : Int) - 1 := by omega
  have e2 : (s.size : Int) - 1 ≤ (s.size : Int) := by omega
  have e3 : ((s.size : Int) - 1).toNat = s.size - 1 := by omega
  have e4 : (0 : Int) ≤ (s.size : Int) - 1 := by omega
  have e5 : IntKind.i64.wrap ((s.size : Int) - 1) = (s.size : Int) - 1 := IntWalk.i64_in _ (by omega)
  go_enter Tryd.func47, Tryd.ntmps47
  go_wp2
  go_ret
  exact ⟨rfl, Keeps.refl _ _⟩
set_option maxHeartbeats 1000000 in
theorem said_other (k : Nat) (hk : ¬ k = 2) (s : ByteArray) (w : World) : Calls Tryd.prog 47 #[.int .i64 k, .string s] w fun e w' => e = .returned (.string s) ∧ Keeps (fun _ => False) w w' := by
  have e1 : ((k : Int) == 2) = false := by simp; omega
  go_enter Tryd.func47, Tryd.ntmps47
  go_wp2
  go_ret
  exact ⟨rfl, Keeps.refl _ _⟩

/-- Bytes as a string. -/
def ofL (l : List UInt8) : ByteArray := ⟨l.toArray⟩
theorem ofL_list (l : List UInt8) : (ofL l).data.toList = l := by simp [ofL]
theorem ofL_size (l : List UInt8) : (ofL l).size = l.length := by rw [← len_size, ofL_list]
theorem ofL_of {s : ByteArray} {l : List UInt8} (h : s.data.toList = l) : s = ofL l := bytes_ext (by rw [h, ofL_list])

theorem said_any (k : Nat) (s : ByteArray) (h2 : k = 2 → 2 ≤ s.size) (hs : s.size ≤ 1000) (w : World) : Calls Tryd.prog 47 #[.int .i64 k, .string s] w fun e w' => e = .returned (.string (ofL (saidL k s.data.toList))) ∧ Keeps (fun _ => False) w w' := by
  by_cases hk : k = 2
  · subst hk
    have e : s.extract 1 (s.size - 1) = ofL (saidL 2 s.data.toList) := ofL_of (by
      unfold saidL
      rw [if_pos rfl, len_size]
      simp [List.drop_take])
    rw [← e]
    exact said_text s (h2 rfl) hs w
  · have e : s = ofL (saidL k s.data.toList) := ofL_of (by unfold saidL; rw [if_neg hk])
    rw [← e]
    exact said_other k hk s w

end Go.Proofs.YtgelggdgbmldiaaDoor
