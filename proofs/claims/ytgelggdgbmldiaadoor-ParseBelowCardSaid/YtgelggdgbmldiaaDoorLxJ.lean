/-
  Layer 1: the contract of sign. Written by an AI agent.
-/
import Derived.Test.YtgelggdgbmldiaaDoorLxI
namespace Go.Proofs.YtgelggdgbmldiaaDoor
open Go.RowKit Go.Shelf
set_option linter.unusedVariables false
set_option linter.unusedSimpArgs false

theorem isTwo_eq (l : List UInt8) : isTwo l = (([124, 124] : List UInt8).isPrefixOf l || ([38, 38] : List UInt8).isPrefixOf l || ([60, 61] : List UInt8).isPrefixOf l || ([61, 61] : List UInt8).isPrefixOf l || ([33, 61] : List UInt8).isPrefixOf l) := by
  unfold isTwo twosL
  simp [List.any_cons, Bool.or_assoc]

theorem ones_index (c : UInt8) : (0 ≤ Lib.indexByte onesL c) = (onesL.contains c = true) := by
  apply propext
  rw [List.contains_iff_mem]
  constructor
  · intro h
    obtain ⟨o, ho⟩ : ∃ o : Nat, Lib.indexByte onesL c = o := ⟨(Lib.indexByte onesL c).toNat, by omega⟩
    exact List.mem_of_getElem? (Lib.indexByte_some ho).1
  · intro h
    rcases Int.lt_or_le (Lib.indexByte onesL c) 0 with h1 | h1
    · have h2 := Lib.indexByte_ge onesL c
      obtain ⟨i, hi, e⟩ := List.getElem_of_mem h
      have := Lib.indexByte_none (l := onesL) (c := c) (by omega) i
      rw [List.getElem?_eq_getElem hi, e] at this
      exact absurd rfl this
    · exact h1

set_option maxRecDepth 100000 in
set_option maxHeartbeats 4000000 in
theorem sign_any (s : ByteArray) (hs : s.size ≤ 1000) (h1 : 1 ≤ s.size) (w : World) : Calls Tryd.prog 77 #[.string s] w fun e w' => e = .returned (.tuple #[.int .i64 ((signL s.data.toList).1 : Nat), .int .i64 ((signL s.data.toList).2.1 : Nat), .int .i64 ((signL s.data.toList).2.2 : Nat)]) ∧ Keeps (fun _ => False) w w' := by
  obtain ⟨l, hl⟩ : ∃ l : List UInt8, l = s.data.toList := ⟨_, rfl⟩
  have PC : Hid (∀ (p : ByteArray) w, Calls Tryd.prog 44 #[.string s, .string p] w fun e w' => e = .returned (.bool (p.data.toList.isPrefixOf l)) ∧ w' = w) := fun p w => by rw [hl]; exact prefix_any s p w
  obtain ⟨c, hc⟩ : ∃ c : UInt8, c = s[0] := ⟨_, rfl⟩
  have hhead : l.headD 0 = c := by
    have h2 := at_byte s 0 (by omega)
    rw [← hl, ← hc] at h2
    cases l with
    | nil => simp at h2
    | cons d r => simpa using h2
  have IC : Hid (∀ w, Calls Tryd.prog 45 #[.string (ofL onesL), .int .u8 (c.toNat : Int)] w fun e w' => e = .returned (.int .i64 (Lib.indexByte onesL c)) ∧ w' = w) := fun w => by
    have h := index_any (ofL onesL) c w
    rw [ofL_list] at h
    exact h
  have hv : signL l = if isTwo l then (5, 2, 0) else if onesL.contains c then (5, 1, 0) else (0, 0, 10) := by unfold signL; rw [hhead]
  rw [← hl]
  obtain ⟨R, hR⟩ : ∃ R : Nat × Nat × Nat, R = signL l := ⟨_, rfl⟩
  rw [← hR] at hv ⊢
  have HV := Lib.hid hv
  have i0 : ∀ w : World, (Instr.index 113 (.agg #[.string { data := #[124, 124] }, .string { data := #[38, 38] }, .string { data := #[60, 61] }, .string { data := #[61, 61] }, .string { data := #[33, 61] }]) (.int .i64 0)).run Tryd.prog w = .ok (.string { data := #[124, 124] }) w := fun _ => by kernel_rfl
  have i1 : ∀ w : World, (Instr.index 113 (.agg #[.string { data := #[124, 124] }, .string { data := #[38, 38] }, .string { data := #[60, 61] }, .string { data := #[61, 61] }, .string { data := #[33, 61] }]) (.int .i64 1)).run Tryd.prog w = .ok (.string { data := #[38, 38] }) w := fun _ => by kernel_rfl
  have i2 : ∀ w : World, (Instr.index 113 (.agg #[.string { data := #[124, 124] }, .string { data := #[38, 38] }, .string { data := #[60, 61] }, .string { data := #[61, 61] }, .string { data := #[33, 61] }]) (.int .i64 2)).run Tryd.prog w = .ok (.string { data := #[60, 61] }) w := fun _ => by kernel_rfl
  have i3 : ∀ w : World, (Instr.index 113 (.agg #[.string { data := #[124, 124] }, .string { data := #[38, 38] }, .string { data := #[60, 61] }, .string { data := #[61, 61] }, .string { data := #[33, 61] }]) (.int .i64 3)).run Tryd.prog w = .ok (.string { data := #[61, 61] }) w := fun _ => by kernel_rfl
  have i4 : ∀ w : World, (Instr.index 113 (.agg #[.string { data := #[124, 124] }, .string { data := #[38, 38] }, .string { data := #[60, 61] }, .string { data := #[61, 61] }, .string { data := #[33, 61] }]) (.int .i64 4)).run Tryd.prog w = .ok (.string { data := #[33, 61] }) w := fun _ => by kernel_rfl
  clear hR
  have hsz : (0 : Int) < (s.size : Int) := by omega
  have hsz0 : 0 < s.size := by omega
  have HC := Lib.hid hc
  have HTwo := Lib.hid (isTwo_eq l)
  clear hl hhead hv hc
  go_enter Tryd.func77, Tryd.ntmps77
  go_wp2_with fail
  go_loopw [8] (fun s8 wr => ∃ k : Nat, k ≤ 5 ∧ s8 = .int .i64 k ∧ (∀ j, j < k → (twosL.getD j []).isPrefixOf l = false) ∧ wr = w) (fun s8 _ => 5 - (intOf s8).toNat)
  case atStart => exact ⟨0, by omega, rfl, fun j h => absurd h (Nat.not_lt_zero _), rfl⟩
  case round =>
    obtain ⟨k, hk, rfl, hall, rfl⟩ := hrel
    have HAll := Lib.hid hall
    clear hall
    have hcase : k = 0 ∨ k = 1 ∨ k = 2 ∨ k = 3 ∨ k = 4 ∨ k = 5 := by omega
    rcases hcase with rfl | rfl | rfl | rfl | rfl | rfl
    · cases hp : ([124, 124] : List UInt8).isPrefixOf l with
      | true =>
        have hT : isTwo l = true := by
          rw [HTwo.out]
          simp [hp]
        have HR := Lib.hid (show R = (5, 2, 0) by rw [HV.out, if_pos hT])
        have PC1 : Hid (∀ w, Calls Tryd.prog 44 #[.string s, .string { data := #[124, 124] }] w fun e w' => e = .returned (.bool true) ∧ w' = w) := fun w => by
          have h := PC.out { data := #[124, 124] } w
          rw [show (({ data := #[124, 124] } : ByteArray).data.toList) = [124, 124] from rfl, hp] at h
          exact h
        clear hp hT
        go_wp2_with fail
        refine (PC1.out _).mono ?_
        rintro e w1 ⟨rfl, rfl⟩
        go_wp2
        go_ret3
        exact ⟨by rw [HR.out]; rfl, Keeps.refl _ _⟩
      | false =>
        have hnext : ∀ j, j < 0 + 1 → (twosL.getD j []).isPrefixOf l = false := fun j hj => by
          rcases Nat.lt_or_ge j 0 with h | h
          · exact HAll.out j h
          · obtain rfl : j = 0 := by omega
            exact hp
        have HNx := Lib.hid hnext
        have PC1 : Hid (∀ w, Calls Tryd.prog 44 #[.string s, .string { data := #[124, 124] }] w fun e w' => e = .returned (.bool false) ∧ w' = w) := fun w => by
          have h := PC.out { data := #[124, 124] } w
          rw [show (({ data := #[124, 124] } : ByteArray).data.toList) = [124, 124] from rfl, hp] at h
          exact h
        clear hp hnext
        go_wp2_with fail
        refine (PC1.out _).mono ?_
        rintro e w1 ⟨rfl, rfl⟩
        go_wp2
        go_roundw
        case rel => exact ⟨0 + 1, by omega, by rfl, HNx.out, by first | rfl | trivial⟩
        case measure => simp [intOf]
    · cases hp : ([38, 38] : List UInt8).isPrefixOf l with
      | true =>
        have hT : isTwo l = true := by
          rw [HTwo.out]
          simp [hp]
        have HR := Lib.hid (show R = (5, 2, 0) by rw [HV.out, if_pos hT])
        have PC1 : Hid (∀ w, Calls Tryd.prog 44 #[.string s, .string { data := #[38, 38] }] w fun e w' => e = .returned (.bool true) ∧ w' = w) := fun w => by
          have h := PC.out { data := #[38, 38] } w
          rw [show (({ data := #[38, 38] } : ByteArray).data.toList) = [38, 38] from rfl, hp] at h
          exact h
        clear hp hT
        go_wp2_with fail
        refine (PC1.out _).mono ?_
        rintro e w1 ⟨rfl, rfl⟩
        go_wp2
        go_ret3
        exact ⟨by rw [HR.out]; rfl, Keeps.refl _ _⟩
      | false =>
        have hnext : ∀ j, j < 1 + 1 → (twosL.getD j []).isPrefixOf l = false := fun j hj => by
          rcases Nat.lt_or_ge j 1 with h | h
          · exact HAll.out j h
          · obtain rfl : j = 1 := by omega
            exact hp
        have HNx := Lib.hid hnext
        have PC1 : Hid (∀ w, Calls Tryd.prog 44 #[.string s, .string { data := #[38, 38] }] w fun e w' => e = .returned (.bool false) ∧ w' = w) := fun w => by
          have h := PC.out { data := #[38, 38] } w
          rw [show (({ data := #[38, 38] } : ByteArray).data.toList) = [38, 38] from rfl, hp] at h
          exact h
        clear hp hnext
        go_wp2_with fail
        refine (PC1.out _).mono ?_
        rintro e w1 ⟨rfl, rfl⟩
        go_wp2
        go_roundw
        case rel => exact ⟨1 + 1, by omega, by rfl, HNx.out, by first | rfl | trivial⟩
        case measure => simp [intOf]
    · cases hp : ([60, 61] : List UInt8).isPrefixOf l with
      | true =>
        have hT : isTwo l = true := by
          rw [HTwo.out]
          simp [hp]
        have HR := Lib.hid (show R = (5, 2, 0) by rw [HV.out, if_pos hT])
        have PC1 : Hid (∀ w, Calls Tryd.prog 44 #[.string s, .string { data := #[60, 61] }] w fun e w' => e = .returned (.bool true) ∧ w' = w) := fun w => by
          have h := PC.out { data := #[60, 61] } w
          rw [show (({ data := #[60, 61] } : ByteArray).data.toList) = [60, 61] from rfl, hp] at h
          exact h
        clear hp hT
        go_wp2_with fail
        refine (PC1.out _).mono ?_
        rintro e w1 ⟨rfl, rfl⟩
        go_wp2
        go_ret3
        exact ⟨by rw [HR.out]; rfl, Keeps.refl _ _⟩
      | false =>
        have hnext : ∀ j, j < 2 + 1 → (twosL.getD j []).isPrefixOf l = false := fun j hj => by
          rcases Nat.lt_or_ge j 2 with h | h
          · exact HAll.out j h
          · obtain rfl : j = 2 := by omega
            exact hp
        have HNx := Lib.hid hnext
        have PC1 : Hid (∀ w, Calls Tryd.prog 44 #[.string s, .string { data := #[60, 61] }] w fun e w' => e = .returned (.bool false) ∧ w' = w) := fun w => by
          have h := PC.out { data := #[60, 61] } w
          rw [show (({ data := #[60, 61] } : ByteArray).data.toList) = [60, 61] from rfl, hp] at h
          exact h
        clear hp hnext
        go_wp2_with fail
        refine (PC1.out _).mono ?_
        rintro e w1 ⟨rfl, rfl⟩
        go_wp2
        go_roundw
        case rel => exact ⟨2 + 1, by omega, by rfl, HNx.out, by first | rfl | trivial⟩
        case measure => simp [intOf]
    · cases hp : ([61, 61] : List UInt8).isPrefixOf l with
      | true =>
        have hT : isTwo l = true := by
          rw [HTwo.out]
          simp [hp]
        have HR := Lib.hid (show R = (5, 2, 0) by rw [HV.out, if_pos hT])
        have PC1 : Hid (∀ w, Calls Tryd.prog 44 #[.string s, .string { data := #[61, 61] }] w fun e w' => e = .returned (.bool true) ∧ w' = w) := fun w => by
          have h := PC.out { data := #[61, 61] } w
          rw [show (({ data := #[61, 61] } : ByteArray).data.toList) = [61, 61] from rfl, hp] at h
          exact h
        clear hp hT
        go_wp2_with fail
        refine (PC1.out _).mono ?_
        rintro e w1 ⟨rfl, rfl⟩
        go_wp2
        go_ret3
        exact ⟨by rw [HR.out]; rfl, Keeps.refl _ _⟩
      | false =>
        have hnext : ∀ j, j < 3 + 1 → (twosL.getD j []).isPrefixOf l = false := fun j hj => by
          rcases Nat.lt_or_ge j 3 with h | h
          · exact HAll.out j h
          · obtain rfl : j = 3 := by omega
            exact hp
        have HNx := Lib.hid hnext
        have PC1 : Hid (∀ w, Calls Tryd.prog 44 #[.string s, .string { data := #[61, 61] }] w fun e w' => e = .returned (.bool false) ∧ w' = w) := fun w => by
          have h := PC.out { data := #[61, 61] } w
          rw [show (({ data := #[61, 61] } : ByteArray).data.toList) = [61, 61] from rfl, hp] at h
          exact h
        clear hp hnext
        go_wp2_with fail
        refine (PC1.out _).mono ?_
        rintro e w1 ⟨rfl, rfl⟩
        go_wp2
        go_roundw
        case rel => exact ⟨3 + 1, by omega, by rfl, HNx.out, by first | rfl | trivial⟩
        case measure => simp [intOf]
    · cases hp : ([33, 61] : List UInt8).isPrefixOf l with
      | true =>
        have hT : isTwo l = true := by
          rw [HTwo.out]
          simp [hp]
        have HR := Lib.hid (show R = (5, 2, 0) by rw [HV.out, if_pos hT])
        have PC1 : Hid (∀ w, Calls Tryd.prog 44 #[.string s, .string { data := #[33, 61] }] w fun e w' => e = .returned (.bool true) ∧ w' = w) := fun w => by
          have h := PC.out { data := #[33, 61] } w
          rw [show (({ data := #[33, 61] } : ByteArray).data.toList) = [33, 61] from rfl, hp] at h
          exact h
        clear hp hT
        go_wp2_with fail
        refine (PC1.out _).mono ?_
        rintro e w1 ⟨rfl, rfl⟩
        go_wp2
        go_ret3
        exact ⟨by rw [HR.out]; rfl, Keeps.refl _ _⟩
      | false =>
        have hnext : ∀ j, j < 4 + 1 → (twosL.getD j []).isPrefixOf l = false := fun j hj => by
          rcases Nat.lt_or_ge j 4 with h | h
          · exact HAll.out j h
          · obtain rfl : j = 4 := by omega
            exact hp
        have HNx := Lib.hid hnext
        have PC1 : Hid (∀ w, Calls Tryd.prog 44 #[.string s, .string { data := #[33, 61] }] w fun e w' => e = .returned (.bool false) ∧ w' = w) := fun w => by
          have h := PC.out { data := #[33, 61] } w
          rw [show (({ data := #[33, 61] } : ByteArray).data.toList) = [33, 61] from rfl, hp] at h
          exact h
        clear hp hnext
        go_wp2_with fail
        refine (PC1.out _).mono ?_
        rintro e w1 ⟨rfl, rfl⟩
        go_wp2
        go_roundw
        case rel => exact ⟨4 + 1, by omega, by rfl, HNx.out, by first | rfl | trivial⟩
        case measure => simp [intOf]
    · have hT : isTwo l = false := by
        rw [HTwo.out]
        have h0 := HAll.out 0 (by omega)
        have h1 := HAll.out 1 (by omega)
        have h2 := HAll.out 2 (by omega)
        have h3 := HAll.out 3 (by omega)
        have h4 := HAll.out 4 (by omega)
        simp only [twosL, List.getD_cons_zero, List.getD_cons_succ] at h0 h1 h2 h3 h4
        rw [h0, h1, h2, h3, h4]
        rfl
      have hon := ones_index c
      obtain ⟨z, hz⟩ : ∃ z : Int, z = Lib.indexByte onesL c := ⟨_, rfl⟩
      rw [← hz] at IC hon
      by_cases hin : onesL.contains c = true
      · have HR := Lib.hid (show R = (5, 1, 0) by rw [HV.out, if_neg (by rw [hT]; decide), if_pos hin])
        have hz0 : (0 : Int) ≤ z := by rw [hon]; exact hin
        have hd : decide ((0 : Int) ≤ z) = true := decide_eq_true hz0
        clear hT hon hz hin
        go_wp2_with fail
        rw [← HC.out]
        refine (IC.out _).mono ?_
        rintro e w1 ⟨rfl, rfl⟩
        go_wp2
        go_ret3
        exact ⟨by rw [HR.out]; rfl, Keeps.refl _ _⟩
      · have HR := Lib.hid (show R = (0, 0, 10) by rw [HV.out, if_neg (by rw [hT]; decide), if_neg hin])
        have hz0 : ¬ (0 : Int) ≤ z := by rw [hon]; exact hin
        have hd : decide ((0 : Int) ≤ z) = false := decide_eq_false hz0
        clear hT hon hz hin
        go_wp2_with fail
        rw [← HC.out]
        refine (IC.out _).mono ?_
        rintro e w1 ⟨rfl, rfl⟩
        go_wp2
        go_ret3
        exact ⟨by rw [HR.out]; rfl, Keeps.refl _ _⟩

end Go.Proofs.YtgelggdgbmldiaaDoor
