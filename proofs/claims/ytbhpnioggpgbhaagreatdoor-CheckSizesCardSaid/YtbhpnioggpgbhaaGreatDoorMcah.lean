/-
 Layer 1: the contract of sign. Written by an AI agent.
 Layer 1: the contract of first. Written by an AI agent.
 Layer 1: tokens in memory; the contract of what puts one behind the others. Written by an AI agent.
-/
import Derived.Test.YtbhpnioggpgbhaaGreatDoorMcag
namespace Go.Proofs.YtbhpnioggpgbhaaGreatDoor
open Go.RowKit Go.Shelf
set_option linter.unusedVariables false
set_option linter.unusedSimpArgs false
theorem isTwo_eq (l : List UInt8) : isTwo l = (([124, 124] : List UInt8).isPrefixOf l || ([38, 38] : List UInt8).isPrefixOf l || ([60, 61] : List UInt8).isPrefixOf l || ([61, 61] : List UInt8).isPrefixOf l || ([33, 61] : List UInt8).isPrefixOf l) := by
 unfold isTwo twosL
 simp [List.any_cons, Bool.or_assoc]
theorem ones_index (c : UInt8) : (0 ≤ Lib.indexByte onesL c) = (onesL.contains c = true) := by
 apply propext
 rw [List.contains_iff_mem]
 constructor
 ·intro h
  obtain ⟨o, ho⟩ : ∃ o : Nat, Lib.indexByte onesL c = o := ⟨(Lib.indexByte onesL c).toNat, by omega⟩
  exact List.mem_of_getElem? (Lib.indexByte_some ho).1
 ·intro h
  rcases Int.lt_or_le (Lib.indexByte onesL c) 0 with h1 | h1
  ·have h2 := Lib.indexByte_ge onesL c
   obtain ⟨i, hi, e⟩ := List.getElem_of_mem h
   have := Lib.indexByte_none (l := onesL) (c := c) (by omega) i
   rw [List.getElem?_eq_getElem hi, e] at this
   exact absurd rfl this
  ·exact h1
set_option maxRecDepth 100000 in
set_option maxHeartbeats 4000000 in
theorem sign_any (s : ByteArray) (hs : s.size ≤ 1000) (h1 : 1 ≤ s.size) (w : World) : Calls Tryz.prog 89 #[.string s] w fun e w' => e = .returned (.tuple #[.int .i64 ((signL s.data.toList).1 : Nat), .int .i64 ((signL s.data.toList).2.1 : Nat), .int .i64 ((signL s.data.toList).2.2 : Nat)]) ∧ Keeps (fun _ => False) w w' := by
 obtain ⟨l, hl⟩ : ∃ l : List UInt8, l = s.data.toList := ⟨_, rfl⟩
 have PC : Hid (∀ (p : ByteArray) w, Calls Tryz.prog 55 #[.string s, .string p] w fun e w' => e = .returned (.bool (p.data.toList.isPrefixOf l)) ∧ w' = w) := fun p w => by rw [hl]; exact prefix_any s p w
 obtain ⟨c, hc⟩ : ∃ c : UInt8, c = s[0] := ⟨_, rfl⟩
 have hhead : l.headD 0 = c := by
  have h2 := at_byte s 0 (by omega)
  rw [← hl, ← hc] at h2
  cases l with
  | nil => simp at h2
  | cons d r => simpa using h2
 have IC : Hid (∀ w, Calls Tryz.prog 56 #[.string (ofL onesL), .int .u8 (c.toNat : Int)] w fun e w' => e = .returned (.int .i64 (Lib.indexByte onesL c)) ∧ w' = w) := fun w => by
  have h := index_any (ofL onesL) c w
  rw [ofL_list] at h
  exact h
 have hv : signL l = if isTwo l then (5, 2, 0) else if onesL.contains c then (5, 1, 0) else (0, 0, 10) := by unfold signL; rw [hhead]
 rw [← hl]
 obtain ⟨R, hR⟩ : ∃ R : Nat × Nat × Nat, R = signL l := ⟨_, rfl⟩
 rw [← hR] at hv ⊢
 have HV := Lib.hid hv
 have i0 : ∀ w : World, (Instr.index 120 (.agg #[.string { data := #[124, 124] }, .string { data := #[38, 38] }, .string { data := #[60, 61] }, .string { data := #[61, 61] }, .string { data := #[33, 61] }]) (.int .i64 0)).run Tryz.prog w = .ok (.string { data := #[124, 124] }) w := fun _ => by kernel_rfl
 have i1 : ∀ w : World, (Instr.index 120 (.agg #[.string { data := #[124, 124] }, .string { data := #[38, 38] }, .string { data := #[60, 61] }, .string { data := #[61, 61] }, .string { data := #[33, 61] }]) (.int .i64 1)).run Tryz.prog w = .ok (.string { data := #[38, 38] }) w := fun _ => by kernel_rfl
 have i2 : ∀ w : World, (Instr.index 120 (.agg #[.string { data := #[124, 124] }, .string { data := #[38, 38] }, .string { data := #[60, 61] }, .string { data := #[61, 61] }, .string { data := #[33, 61] }]) (.int .i64 2)).run Tryz.prog w = .ok (.string { data := #[60, 61] }) w := fun _ => by kernel_rfl
 have i3 : ∀ w : World, (Instr.index 120 (.agg #[.string { data := #[124, 124] }, .string { data := #[38, 38] }, .string { data := #[60, 61] }, .string { data := #[61, 61] }, .string { data := #[33, 61] }]) (.int .i64 3)).run Tryz.prog w = .ok (.string { data := #[61, 61] }) w := fun _ => by kernel_rfl
 have i4 : ∀ w : World, (Instr.index 120 (.agg #[.string { data := #[124, 124] }, .string { data := #[38, 38] }, .string { data := #[60, 61] }, .string { data := #[61, 61] }, .string { data := #[33, 61] }]) (.int .i64 4)).run Tryz.prog w = .ok (.string { data := #[33, 61] }) w := fun _ => by kernel_rfl
 clear hR
 have hsz : (0 : Int) < (s.size : Int) := by omega
 have hsz0 : 0 < s.size := by omega
 have HC := Lib.hid hc
 have HTwo := Lib.hid (isTwo_eq l)
 clear hl hhead hv hc
 go_enter Tryz.func89, Tryz.ntmps89
 go_wp2_with fail
 go_loopw [8] (fun s8 wr => ∃ k : Nat, k ≤ 5 ∧ s8 = .int .i64 k ∧ (∀ j, j < k → (twosL.getD j []).isPrefixOf l = false) ∧ wr = w) (fun s8 _ => 5 - (intOf s8).toNat)
 case atStart => exact ⟨0, by omega, rfl, fun j h => absurd h (Nat.not_lt_zero _), rfl⟩
 case round =>
  obtain ⟨k, hk, rfl, hall, rfl⟩ := hrel
  have HAll := Lib.hid hall
  clear hall
  have hcase : k = 0 ∨ k = 1 ∨ k = 2 ∨ k = 3 ∨ k = 4 ∨ k = 5 := by omega
  rcases hcase with rfl | rfl | rfl | rfl | rfl | rfl
  ·cases hp : ([124, 124] : List UInt8).isPrefixOf l with
   | true =>
    have hT : isTwo l = true := by
     rw [HTwo.out]
     simp [hp]
    have HR := Lib.hid (show R = (5, 2, 0) by rw [HV.out, if_pos hT])
    have PC1 : Hid (∀ w, Calls Tryz.prog 55 #[.string s, .string { data := #[124, 124] }] w fun e w' => e = .returned (.bool true) ∧ w' = w) := fun w => by
     have h := PC.out { data := #[124, 124] } w
     rw [show (({ data := #[124, 124] } : ByteArray).data.toList) = [124, 124] from rfl, hp] at h
     exact h
    clear hp hT
    go_wp2_with fail
    refine (PC1.out _).mono ?_
    rintro e w1 ⟨rfl, rfl⟩
    go_wp2
    go_ret3
    exact ⟨by rw [HR.out]; rfl, Keeps.refl _ _⟩
   | false =>
    have hnext : ∀ j, j < 0 + 1 → (twosL.getD j []).isPrefixOf l = false := fun j hj => by
     rcases Nat.lt_or_ge j 0 with h | h
     ·exact HAll.out j h
     ·obtain rfl : j = 0 := by omega
      exact hp
    have HNx := Lib.hid hnext
    have PC1 : Hid (∀ w, Calls Tryz.prog 55 #[.string s, .string { data := #[124, 124] }] w fun e w' => e = .returned (.bool false) ∧ w' = w) := fun w => by
     have h := PC.out { data := #[124, 124] } w
     rw [show (({ data := #[124, 124] } : ByteArray).data.toList) = [124, 124] from rfl, hp] at h
     exact h
    clear hp hnext
    go_wp2_with fail
    refine (PC1.out _).mono ?_
    rintro e w1 ⟨rfl, rfl⟩
    go_wp2
    go_roundw
    case rel => exact ⟨0 + 1, by omega, by rfl, HNx.out, by first | rfl | trivial⟩
    case measure => simp [intOf]
  ·cases hp : ([38, 38] : List UInt8).isPrefixOf l with
   | true =>
    have hT : isTwo l = true := by
     rw [HTwo.out]
     simp [hp]
    have HR := Lib.hid (show R = (5, 2, 0) by rw [HV.out, if_pos hT])
    have PC1 : Hid (∀ w, Calls Tryz.prog 55 #[.string s, .string { data := #[38, 38] }] w fun e w' => e = .returned (.bool true) ∧ w' = w) := fun w => by
     have h := PC.out { data := #[38, 38] } w
     rw [show (({ data := #[38, 38] } : ByteArray).data.toList) = [38, 38] from rfl, hp] at h
     exact h
    clear hp hT
    go_wp2_with fail
    refine (PC1.out _).mono ?_
    rintro e w1 ⟨rfl, rfl⟩
    go_wp2
    go_ret3
    exact ⟨by rw [HR.out]; rfl, Keeps.refl _ _⟩
   | false =>
    have hnext : ∀ j, j < 1 + 1 → (twosL.getD j []).isPrefixOf l = false := fun j hj => by
     rcases Nat.lt_or_ge j 1 with h | h
     ·exact HAll.out j h
     ·obtain rfl : j = 1 := by omega
      exact hp
    have HNx := Lib.hid hnext
    have PC1 : Hid (∀ w, Calls Tryz.prog 55 #[.string s, .string { data := #[38, 38] }] w fun e w' => e = .returned (.bool false) ∧ w' = w) := fun w => by
     have h := PC.out { data := #[38, 38] } w
     rw [show (({ data := #[38, 38] } : ByteArray).data.toList) = [38, 38] from rfl, hp] at h
     exact h
    clear hp hnext
    go_wp2_with fail
    refine (PC1.out _).mono ?_
    rintro e w1 ⟨rfl, rfl⟩
    go_wp2
    go_roundw
    case rel => exact ⟨1 + 1, by omega, by rfl, HNx.out, by first | rfl | trivial⟩
    case measure => simp [intOf]
  ·cases hp : ([60, 61] : List UInt8).isPrefixOf l with
   | true =>
    have hT : isTwo l = true := by
     rw [HTwo.out]
     simp [hp]
    have HR := Lib.hid (show R = (5, 2, 0) by rw [HV.out, if_pos hT])
    have PC1 : Hid (∀ w, Calls Tryz.prog 55 #[.string s, .string { data := #[60, 61] }] w fun e w' => e = .returned (.bool true) ∧ w' = w) := fun w => by
     have h := PC.out { data := #[60, 61] } w
     rw [show (({ data := #[60, 61] } : ByteArray).data.toList) = [60, 61] from rfl, hp] at h
     exact h
    clear hp hT
    go_wp2_with fail
    refine (PC1.out _).mono ?_
    rintro e w1 ⟨rfl, rfl⟩
    go_wp2
    go_ret3
    exact ⟨by rw [HR.out]; rfl, Keeps.refl _ _⟩
   | false =>
    have hnext : ∀ j, j < 2 + 1 → (twosL.getD j []).isPrefixOf l = false := fun j hj => by
     rcases Nat.lt_or_ge j 2 with h | h
     ·exact HAll.out j h
     ·obtain rfl : j = 2 := by omega
      exact hp
    have HNx := Lib.hid hnext
    have PC1 : Hid (∀ w, Calls Tryz.prog 55 #[.string s, .string { data := #[60, 61] }] w fun e w' => e = .returned (.bool false) ∧ w' = w) := fun w => by
     have h := PC.out { data := #[60, 61] } w
     rw [show (({ data := #[60, 61] } : ByteArray).data.toList) = [60, 61] from rfl, hp] at h
     exact h
    clear hp hnext
    go_wp2_with fail
    refine (PC1.out _).mono ?_
    rintro e w1 ⟨rfl, rfl⟩
    go_wp2
    go_roundw
    case rel => exact ⟨2 + 1, by omega, by rfl, HNx.out, by first | rfl | trivial⟩
    case measure => simp [intOf]
  ·cases hp : ([61, 61] : List UInt8).isPrefixOf l with
   | true =>
    have hT : isTwo l = true := by
     rw [HTwo.out]
     simp [hp]
    have HR := Lib.hid (show R = (5, 2, 0) by rw [HV.out, if_pos hT])
    have PC1 : Hid (∀ w, Calls Tryz.prog 55 #[.string s, .string { data := #[61, 61] }] w fun e w' => e = .returned (.bool true) ∧ w' = w) := fun w => by
     have h := PC.out { data := #[61, 61] } w
     rw [show (({ data := #[61, 61] } : ByteArray).data.toList) = [61, 61] from rfl, hp] at h
     exact h
    clear hp hT
    go_wp2_with fail
    refine (PC1.out _).mono ?_
    rintro e w1 ⟨rfl, rfl⟩
    go_wp2
    go_ret3
    exact ⟨by rw [HR.out]; rfl, Keeps.refl _ _⟩
   | false =>
    have hnext : ∀ j, j < 3 + 1 → (twosL.getD j []).isPrefixOf l = false := fun j hj => by
     rcases Nat.lt_or_ge j 3 with h | h
     ·exact HAll.out j h
     ·obtain rfl : j = 3 := by omega
      exact hp
    have HNx := Lib.hid hnext
    have PC1 : Hid (∀ w, Calls Tryz.prog 55 #[.string s, .string { data := #[61, 61] }] w fun e w' => e = .returned (.bool false) ∧ w' = w) := fun w => by
     have h := PC.out { data := #[61, 61] } w
     rw [show (({ data := #[61, 61] } : ByteArray).data.toList) = [61, 61] from rfl, hp] at h
     exact h
    clear hp hnext
    go_wp2_with fail
    refine (PC1.out _).mono ?_
    rintro e w1 ⟨rfl, rfl⟩
    go_wp2
    go_roundw
    case rel => exact ⟨3 + 1, by omega, by rfl, HNx.out, by first | rfl | trivial⟩
    case measure => simp [intOf]
  ·cases hp : ([33, 61] : List UInt8).isPrefixOf l with
   | true =>
    have hT : isTwo l = true := by
     rw [HTwo.out]
     simp [hp]
    have HR := Lib.hid (show R = (5, 2, 0) by rw [HV.out, if_pos hT])
    have PC1 : Hid (∀ w, Calls Tryz.prog 55 #[.string s, .string { data := #[33, 61] }] w fun e w' => e = .returned (.bool true) ∧ w' = w) := fun w => by
     have h := PC.out { data := #[33, 61] } w
     rw [show (({ data := #[33, 61] } : ByteArray).data.toList) = [33, 61] from rfl, hp] at h
     exact h
    clear hp hT
    go_wp2_with fail
    refine (PC1.out _).mono ?_
    rintro e w1 ⟨rfl, rfl⟩
    go_wp2
    go_ret3
    exact ⟨by rw [HR.out]; rfl, Keeps.refl _ _⟩
   | false =>
    have hnext : ∀ j, j < 4 + 1 → (twosL.getD j []).isPrefixOf l = false := fun j hj => by
     rcases Nat.lt_or_ge j 4 with h | h
     ·exact HAll.out j h
     ·obtain rfl : j = 4 := by omega
      exact hp
    have HNx := Lib.hid hnext
    have PC1 : Hid (∀ w, Calls Tryz.prog 55 #[.string s, .string { data := #[33, 61] }] w fun e w' => e = .returned (.bool false) ∧ w' = w) := fun w => by
     have h := PC.out { data := #[33, 61] } w
     rw [show (({ data := #[33, 61] } : ByteArray).data.toList) = [33, 61] from rfl, hp] at h
     exact h
    clear hp hnext
    go_wp2_with fail
    refine (PC1.out _).mono ?_
    rintro e w1 ⟨rfl, rfl⟩
    go_wp2
    go_roundw
    case rel => exact ⟨4 + 1, by omega, by rfl, HNx.out, by first | rfl | trivial⟩
    case measure => simp [intOf]
  ·have hT : isTwo l = false := by
    rw [HTwo.out]
    have h0 := HAll.out 0 (by omega)
    have h1 := HAll.out 1 (by omega)
    have h2 := HAll.out 2 (by omega)
    have h3 := HAll.out 3 (by omega)
    have h4 := HAll.out 4 (by omega)
    simp only [twosL, List.getD_cons_zero, List.getD_cons_succ] at h0 h1 h2 h3 h4
    rw [h0, h1, h2, h3, h4]
    rfl
   have hon := ones_index c
   obtain ⟨z, hz⟩ : ∃ z : Int, z = Lib.indexByte onesL c := ⟨_, rfl⟩
   rw [← hz] at IC hon
   by_cases hin : onesL.contains c = true
   ·have HR := Lib.hid (show R = (5, 1, 0) by rw [HV.out, if_neg (by rw [hT]; decide), if_pos hin])
    have hz0 : (0 : Int) ≤ z := by rw [hon]; exact hin
    have hd : decide ((0 : Int) ≤ z) = true := decide_eq_true hz0
    clear hT hon hz hin
    go_wp2_with fail
    rw [← HC.out]
    refine (IC.out _).mono ?_
    rintro e w1 ⟨rfl, rfl⟩
    go_wp2
    go_ret3
    exact ⟨by rw [HR.out]; rfl, Keeps.refl _ _⟩
   ·have HR := Lib.hid (show R = (0, 0, 10) by rw [HV.out, if_neg (by rw [hT]; decide), if_neg hin])
    have hz0 : ¬ (0 : Int) ≤ z := by rw [hon]; exact hin
    have hd : decide ((0 : Int) ≤ z) = false := decide_eq_false hz0
    clear hT hon hz hin
    go_wp2_with fail
    rw [← HC.out]
    refine (IC.out _).mono ?_
    rintro e w1 ⟨rfl, rfl⟩
    go_wp2
    go_ret3
    exact ⟨by rw [HR.out]; rfl, Keeps.refl _ _⟩
end Go.Proofs.YtbhpnioggpgbhaaGreatDoor

namespace Go.Proofs.YtbhpnioggpgbhaaGreatDoor
open Go.RowKit Go.Shelf
set_option linter.unusedVariables false
set_option linter.unusedSimpArgs false
abbrev Triple (f : Nat) (s : ByteArray) (R : Nat × Nat × Nat) (w : World) : Prop := Calls Tryz.prog f #[.string s] w fun e w' => e = .returned (.tuple #[.int .i64 (R.1 : Nat), .int .i64 (R.2.1 : Nat), .int .i64 (R.2.2 : Nat)]) ∧ Keeps (fun _ => False) w w'
set_option maxRecDepth 100000 in
set_option maxHeartbeats 4000000 in
theorem first_any (s : ByteArray) (hs : s.size ≤ 1000) (h1 : 1 ≤ s.size) (w : World) (he : ErrW w) : Triple 57 s (firstL s.data.toList) w := by
 obtain ⟨c, hc⟩ : ∃ c : UInt8, c = s[0] := ⟨_, rfl⟩
 obtain ⟨r, hr⟩ : ∃ r, s.data.toList = c :: r := by
  have h2 := at_byte s 0 (by omega)
  rw [← hc] at h2
  cases hl : s.data.toList with
  | nil => rw [hl] at h2; simp at h2
  | cons d r => rw [hl] at h2; exact ⟨r, by rw [show d = c by simpa using h2]⟩
 have hsz0 : 0 < s.size := by omega
 have hsz : (0 : Int) < (s.size : Int) := by omega
 have HE := Lib.hid he
 have D := Lib.hid (fun w => tells_dig w c)
 have L := Lib.hid (fun w => tells_ltr w c)
 have HC := Lib.hid hc
 obtain ⟨R, hR⟩ : ∃ R : Nat × Nat × Nat, R = firstL s.data.toList := ⟨_, rfl⟩
 have hF := hR
 rw [hr, firstL_cons] at hF
 rw [← hR]
 unfold Triple
 clear he hc hR
 cases hd : dig c with
 | true =>
  rw [hd] at D hF
  rw [if_pos rfl] at hF
  have NC : Hid (∀ w1, Keeps (fun _ => False) w w1 → Triple 85 s R w1) := fun w1 k => by
   rw [hF, ← hr]
   refine number_any s hs ?_ w1 (HE.out.keep k)
   rw [hr]
   show 1 ≤ (if dig c then runL dig r + 1 else 0)
   rw [hd]
   show 1 ≤ runL dig r + 1
   omega
  clear hd hF hr L
  go_enter Tryz.func57, Tryz.ntmps57
  go_wp2_with fail
  rw [← HC.out]
  refine (D.out _).mono ?_
  rintro e w1 ⟨rfl, k1⟩
  have N1 := Lib.hid (NC.out w1 k1)
  have K1 := Lib.hid k1
  clear k1
  go_wp2_with fail
  refine N1.out.mono ?_
  rintro e w2 ⟨rfl, k2⟩
  have K2 := Lib.hid (K1.out.trans k2 (fun _ _ h => h))
  clear k2
  go_wp2
  go_ret3
  exact ⟨rfl, K2.out⟩
 | false =>
  rw [hd] at D hF
  rw [if_neg (by decide)] at hF
  cases hlt : ltr c with
  | true =>
   rw [hlt] at L hF
   rw [if_pos rfl] at hF
   have NC : Hid (∀ w1, Keeps (fun _ => False) w w1 → Triple 87 s R w1) := fun w1 k => by
    rw [hF, ← hr]
    exact name_any s hs w1
   clear hd hlt hF hr
   go_enter Tryz.func57, Tryz.ntmps57
   go_wp2_with fail
   rw [← HC.out]
   refine (D.out _).mono ?_
   rintro e w1 ⟨rfl, k1⟩
   have K1 := Lib.hid k1
   clear k1
   go_wp2_with fail
   try rw [← HC.out]
   refine (L.out _).mono ?_
   rintro e w1b ⟨rfl, k1⟩
   have k2 := K1.out.trans k1 (T := fun _ => False) (fun _ _ h => h)
   have N1 := Lib.hid (NC.out w1b k2)
   have K1 := Lib.hid k2
   clear k1 k2
   go_wp2_with fail
   refine N1.out.mono ?_
   rintro e w2 ⟨rfl, k2⟩
   have K2 := Lib.hid (K1.out.trans k2 (fun _ _ h => h))
   clear k2
   go_wp2
   go_ret3
   exact ⟨rfl, K2.out⟩
  | false =>
   rw [hlt] at L hF
   rw [if_neg (by decide)] at hF
   by_cases hq : c = 34
   ·rw [if_pos hq] at hF
    have hb : ((s[0].toNat : Int) == 34) = true := by rw [← HC.out, hq]; rfl
    have HQ := Lib.hid hq
    have NC : Hid (∀ w1, Keeps (fun _ => False) w w1 → Triple 88 s R w1) := fun w1 k => by
     have h := text_any s hs h1 w1
     rw [hr, List.drop_succ_cons, List.drop_zero, ← hF] at h
     exact h
    clear hd hlt hF hr hq hb
    go_enter Tryz.func57, Tryz.ntmps57
    go_wp2_with fail
    rw [← HC.out]
    refine (D.out _).mono ?_
    rintro e w1 ⟨rfl, k1⟩
    have K1 := Lib.hid k1
    clear k1
    go_wp2_with fail
    refine (L.out _).mono ?_
    rintro e w1b ⟨rfl, k1⟩
    have hbc : ((c.toNat : Int) == 34) = true := by rw [HQ.out]; rfl
    have k2 := K1.out.trans k1 (T := fun _ => False) (fun _ _ h => h)
    have N1 := Lib.hid (NC.out w1b k2)
    have K1 := Lib.hid k2
    clear k1 k2
    go_wp2_with fail
    refine N1.out.mono ?_
    rintro e w2 ⟨rfl, k2⟩
    have K2 := Lib.hid (K1.out.trans k2 (fun _ _ h => h))
    clear k2
    go_wp2
    go_ret3
    exact ⟨rfl, K2.out⟩
   ·rw [if_neg hq] at hF
    have h34 : c.toNat ≠ 34 := fun h => hq (UInt8.toNat_inj.1 (h.trans (show 34 = (34 : UInt8).toNat from rfl)))
    have hbc : ((c.toNat : Int) == 34) = false := beq_eq_false_iff_ne.2 (fun h => h34 (by omega))
    have hb : ((s[0].toNat : Int) == 34) = false := by rw [← HC.out]; exact hbc
    have NC : Hid (∀ w1, Keeps (fun _ => False) w w1 → Triple 89 s R w1) := fun w1 k => by
     have h := sign_any s hs h1 w1
     rw [hr, ← hF] at h
     exact h
    clear hd hlt hF hr h34
    go_enter Tryz.func57, Tryz.ntmps57
    go_wp2_with fail
    rw [← HC.out]
    refine (D.out _).mono ?_
    rintro e w1 ⟨rfl, k1⟩
    have K1 := Lib.hid k1
    clear k1
    go_wp2_with fail
    try rw [← HC.out]
    refine (L.out _).mono ?_
    rintro e w1b ⟨rfl, k1⟩
    have k2 := K1.out.trans k1 (T := fun _ => False) (fun _ _ h => h)
    have N1 := Lib.hid (NC.out w1b k2)
    have K1 := Lib.hid k2
    clear k1 k2
    go_wp2_with fail
    refine N1.out.mono ?_
    rintro e w2 ⟨rfl, k2⟩
    have K2 := Lib.hid (K1.out.trans k2 (fun _ _ h => h))
    clear k2
    go_wp2
    go_ret3
    exact ⟨rfl, K2.out⟩
end Go.Proofs.YtbhpnioggpgbhaaGreatDoor

namespace Go.Proofs.YtbhpnioggpgbhaaGreatDoor
open Go.RowKit Go.Shelf
set_option linter.unusedVariables false
set_option linter.unusedSimpArgs false
theorem info33 : (Tryz.prog.info? 77).map (fun i => (i.zero, i.size, i.bytes)) = some (some (.agg #[.int .i64 0, .string ⟨#[]⟩, .int .i64 0]), 3, 32) := by kernel_rfl
theorem info_parts {P : Program} {t : TypeId} {z : Value} {sz by' : Nat} (h : (P.info? t).map (fun i => (i.zero, i.size, i.bytes)) = some (some z, sz, by')) : ∃ i, P.info? t = some i ∧ i.zero = some z ∧ i.size = sz ∧ i.bytes = by' := by
 cases hi : P.info? t with
 | none => rw [hi] at h; cases h
 | some i =>
  rw [hi] at h
  have h2 := Option.some.inj h
  exact ⟨i, rfl, congrArg (·.1) h2, congrArg (·.2.1) h2, congrArg (·.2.2) h2⟩
def Tok.cells (t : Tok) : List Value := [.int .i64 (t.k : Int), .string (ofL t.x), .int .i64 (t.p : Int)]
def flatT (L : List Tok) : List Value := L.flatMap Tok.cells
theorem flatT_cons (a : Tok) (L : List Tok) : flatT (a :: L) = a.cells ++ flatT L := by simp [flatT]
theorem flatT_append (L M : List Tok) : flatT (L ++ M) = flatT L ++ flatT M := by simp [flatT]
theorem flatT_one (L : List Tok) : ∀ u ∈ flatT L, u.oneCell' = true := by
 intro u hu
 simp only [flatT, List.mem_flatMap] at hu
 obtain ⟨a, _, hu⟩ := hu
 simp only [Tok.cells, List.mem_cons, List.not_mem_nil, or_false] at hu
 rcases hu with rfl | rfl | rfl <;> rfl
theorem flatT_at (L : List Tok) (i : Nat) (h : i < L.length) : (flatT L)[i * 3]? = some (.int .i64 ((L.getD i default).k : Int)) ∧ (flatT L)[i * 3 + 1]? = some (.string (ofL (L.getD i default).x)) ∧ (flatT L)[i * 3 + 2]? = some (.int .i64 ((L.getD i default).p : Int)) := by
 induction L generalizing i with
 | nil => exact absurd h (Nat.not_lt_zero _)
 | cons a L ih =>
  rw [flatT_cons]
  cases i with
  | zero => exact ⟨rfl, rfl, rfl⟩
  | succ i =>
   have h2 := ih i (by simpa using h)
   rw [show (i + 1) * 3 = i * 3 + 1 + 1 + 1 by omega]
   exact h2
theorem own_of {w : World} {v : Value} {n : Nat} {xs : List Value} (h : w.ownsRow 0 77 3 v n xs) {w' : World} (hk : Keeps (fun _ => False) w w') : w'.ownsRow 0 77 3 v n xs := ownsRow_keep h fun k hk2 => hk.block k (own_ltk h hk2) (fun h => h)
theorem Tok.one (x : Tok) : ∀ u ∈ x.cells, u.oneCell' = true := by
 intro u hu
 simp only [Tok.cells, List.mem_cons, List.not_mem_nil, or_false] at hu
 rcases hu with rfl | rfl | rfl <;> rfl
theorem news3 {w : World} {s : Nat} (x : Tok) (t : TypeId) (hs : w.heap.size = s) : ∀ j u, x.cells[j]? = some u → (w.alloc (.cells x.cells.toArray t)).cell? ((⟨s, 0, none⟩ : Addr).add j) = some u := by
 intro j u h
 subst hs
 have e : (⟨w.heap.size, 0, none⟩ : Addr).add j = ⟨w.heap.size, j, none⟩ := by unfold Addr.add; split <;> simp_all
 rw [e]
 have hj : j < 3 := (List.getElem?_eq_some_iff.1 h).1
 match j, hj with
 | 0, _ => simpa [Tok.cells] using h
 | 1, _ => simpa [Tok.cells] using h
 | 2, _ => simpa [Tok.cells] using h
/-- The tokens so far, and the place. -/
structure Out (w : World) (B po pa : Nat) (v : Value) (L : List Tok) (p : Nat) : Prop where
 co : w.cell? ⟨po, 0, none⟩ = some v
 ca : w.cell? ⟨pa, 0, none⟩ = some (.int .i64 (p : Int))
 fo : w.frozen? ⟨po, 0, none⟩ = false
 fa : w.frozen? ⟨pa, 0, none⟩ = false
 own : w.ownsRow 0 77 3 v L.length (flatT L)
 hb : ∀ g, v.ownBlock = some g → B ≤ g ∧ g ≠ po ∧ g ≠ pa
 bo : B ≤ po
 ba : B ≤ pa
 ne : po ≠ pa
theorem cell_other (w : World) {p q : Nat} (i j : Nat) (v : Value) (h : i ≠ j ∨ p ≠ q) : (w.setCell ⟨p, i, none⟩ v).cell? ⟨q, j, none⟩ = w.cell? ⟨q, j, none⟩ := World.cell?_setCell_other w _ _ _ (by simp only [ne_eq, Addr.mk.injEq, and_true]; omega)
theorem cell_same (w : World) (p i : Nat) (v x : Value) (h : w.cell? ⟨p, i, none⟩ = some x) : (w.setCell ⟨p, i, none⟩ v).cell? ⟨p, i, none⟩ = some v := World.cell?_setCell_same' w _ _ (by rw [h]; rfl)
section
variable {w w' : World} {B po pa p : Nat} {v : Value} {L : List Tok}
theorem Out.lto (h : Out w B po pa v L p) : po < w.heap.size := cell_ltk h.co
theorem Out.lta (h : Out w B po pa v L p) : pa < w.heap.size := cell_ltk h.ca
theorem Out.keep (h : Out w B po pa v L p) (hk : Keeps (fun _ => False) w w') : Out w' B po pa v L p :=
 ⟨(hk.cell h.lto (fun h => h)).trans h.co, (hk.cell h.lta (fun h => h)).trans h.ca, (hk.frozen h.lto (fun h => h)).trans h.fo, (hk.frozen h.lta (fun h => h)).trans h.fa, own_of h.own hk, h.hb, h.bo, h.ba, h.ne⟩
/-- The place is set. -/
theorem Out.go (h : Out w B po pa v L p) (q : Nat) : Out (w.setCell ⟨pa, 0, none⟩ (.int .i64 (q : Int))) B po pa v L q ∧ Keeps (fun b => B ≤ b) w (w.setCell ⟨pa, 0, none⟩ (.int .i64 (q : Int))) :=
 ⟨⟨(cell_other w 0 0 _ (.inr (fun e => h.ne e.symm))).trans h.co, cell_same w _ _ _ _ h.ca, by rw [World.frozen?_setCell]; exact h.fo, by rw [World.frozen?_setCell]; exact h.fa,
  ownsRow_keep h.own (fun k hk => Below.heap_setCell w _ _ k (fun e => (h.hb k hk).2.2 e)), h.hb, h.bo, h.ba, h.ne⟩,
  (Keeps.refl _ w).setCell (fun _ => h.ba) _⟩
/-- A token more. -/
theorem Out.more (h : Out w B po pa v L p) (t : Tok) {w1 w5 : World} {v5 : Value} (hk : Keeps (fun _ => False) w w1) (ho : w5.ownsRow 0 77 3 v5 (L.length + 1) (flatT L ++ t.cells)) (hg : w1.grownBy w5 v.ownBlock) (hb : v5.ownBlock = v.ownBlock ∨ v5.ownBlock = some w1.heap.size) :
  Out (w5.setCell ⟨po, 0, none⟩ v5) B po pa v5 (L ++ [t]) p ∧ Keeps (fun b => B ≤ b) w (w5.setCell ⟨po, 0, none⟩ v5) ∧ w5.cell? ⟨po, 0, none⟩ = some v ∧ w5.frozen? ⟨po, 0, none⟩ = false := by
 have k5 : Keeps (fun b => some b = v.ownBlock) w w5 := (hk.mono (T := fun b => some b = v.ownBlock) (fun _ _ h => h.elim)).grown hg fun k e _ => e.symm
 have no : ¬ some po = v.ownBlock := fun e => (h.hb po e.symm).2.1 rfl
 have na : ¬ some pa = v.ownBlock := fun e => (h.hb pa e.symm).2.2 rfl
 have c1 : w5.cell? ⟨po, 0, none⟩ = some v := (k5.cell h.lto no).trans h.co
 have c2 : w5.cell? ⟨pa, 0, none⟩ = some (.int .i64 (p : Int)) := (k5.cell h.lta na).trans h.ca
 have f1 : w5.frozen? ⟨po, 0, none⟩ = false := (k5.frozen h.lto no).trans h.fo
 have f2 : w5.frozen? ⟨pa, 0, none⟩ = false := (k5.frozen h.lta na).trans h.fa
 have s1 := hk.size
 have l1 := h.lto
 have l2 := h.lta
 have b1 := h.bo
 have hb5 : ∀ g, v5.ownBlock = some g → B ≤ g ∧ g ≠ po ∧ g ≠ pa := fun g hg2 => by
  rcases hb with e | e
  ·exact h.hb g (e ▸ hg2)
  ·rw [e] at hg2
   have : w1.heap.size = g := Option.some.inj hg2
   omega
 refine ⟨⟨cell_same w5 _ _ _ _ c1, (cell_other w5 0 0 _ (.inr h.ne)).trans c2, by rw [World.frozen?_setCell]; exact f1, by rw [World.frozen?_setCell]; exact f2, ?_, hb5, h.bo, h.ba, h.ne⟩, ?_, c1, f1⟩
 ·rw [List.length_append, flatT_append]
  refine ownsRow_keep (by simpa [flatT] using ho) (fun k hk => Below.heap_setCell w5 _ _ k (fun e => (hb5 k hk).2.1 e))
 ·exact ((k5.mono (T := fun b => B ≤ b) (fun b _ e => (h.hb b e.symm).1))).setCell (fun _ => h.bo) _
end
set_option maxRecDepth 100000 in
set_option maxHeartbeats 4000000 in
theorem put_any (w : World) (B po pa : Nat) (v : Value) (L : List Tok) (p : Nat) (h : Out w B po pa v L p) (hL : L.length ≤ 1000) (hp : p ≤ 1000) (k : Nat) (x : List UInt8) (z : Nat) (hz : z ≤ 1000) :
    Calls Tryz.prog 53 #[.int .i64 (k : Int), .string (ofL x), .int .i64 (z : Int), .pointer (some ⟨po, 0, none⟩), .pointer (some ⟨pa, 0, none⟩)] w fun e w' => e = .returned (.tuple #[]) ∧ (∃ v', Out w' B po pa v' (L ++ [⟨k, x, p⟩]) (p + z)) ∧ Keeps (fun b => B ≤ b) w w' := by
  obtain ⟨i0, hi, hz0, hz1, hz2⟩ := info_parts info33
  have co := h.co
  have ca := h.ca
  have hpl := h.lto
  have hal := h.lta
  obtain ⟨n, hn⟩ : ∃ n : Nat, n = L.length := ⟨_, rfl⟩
  have HO := Lib.hid h
  have HN := Lib.hid hn
  have hpn : po ≠ w.heap.size := by omega
  have han : pa ≠ w.heap.size := by omega
  rw [← hn] at hL
  clear h hn
  obtain ⟨X, hX⟩ : ∃ X : ByteArray, X = ofL x := ⟨_, rfl⟩
  have HX := Lib.hid hX
  rw [← hX]
  clear hX
  have sw : IntKind.i64.wrap ((p : Int) + (z : Int)) = (p : Int) + (z : Int) := IntWalk.i64_in _ (by omega)
  go_enter Tryz.func53, Tryz.ntmps53
  go_upto_region 1 with (at_builtin; refine wpList_append_atk rfl (.tmp 8) (.tmp 13) 52 rfl 0 77 i0 _ 3 32 Tryz.underlying52 hi hz0 hz1 hz2 (by rfl) (by omega) v n (flatT L) (by rfl) (by rw [HN.out]; exact own_of HO.out.own ((Keeps.refl _ w).alloc _)) ⟨w.heap.size, 0, none⟩ 1 1 (⟨k, x, p⟩ : Tok).cells (by rfl) (by rfl) (by rw [show (⟨k, x, p⟩ : Tok).cells = [.int .i64 (k : Int), .string X, .int .i64 (p : Int)] by rw [HX.out]; rfl]; exact (by have h := news3 (w := w) ⟨k, x, p⟩ 77 rfl; rw [show (⟨k, x, p⟩ : Tok).cells = [.int .i64 (k : Int), .string X, .int .i64 (p : Int)] by rw [HX.out]; rfl] at h; exact h)) (Tok.one _) (by omega) (by omega) (Nat.zero_le _) ?_
                         intro v5 w5 h5 g5 b5
                         obtain ⟨A5, c5', rfl⟩ := own_formk h5
                         have hm := HO.out.more ⟨k, x, p⟩ ((Keeps.refl _ w).alloc _) (by rw [← HN.out]; exact h5) g5 b5
                         have HM := Lib.hid hm.1
                         have K5 := Lib.hid hm.2.1
                         have c5 := hm.2.2.1
                         have f5 := hm.2.2.2
                         clear hm h5 g5 b5)
  have HOw := HM.out
  obtain ⟨w6, hw6⟩ : ∃ w6 : World, w6 = w5.setCell ⟨po, 0, none⟩ (.slice A5 (n + 1) c5') := ⟨_, rfl⟩
  rw [← hw6] at HM K5 HOw ⊢
  clear hw6 c5 f5 co ca
  have ca := HOw.ca
  have fa := HOw.fa
  have hgo := HOw.go (p + z)
  have K6 := Lib.hid (K5.out.trans hgo.2 (fun _ _ h => h))
  have H6 := Lib.hid hgo.1
  clear HOw hgo
  rw [show ((p + z : Nat) : Int) = (p : Int) + (z : Int) by omega] at K6 H6
  go_wp2
  exact bodyPost_end (v := .tuple #[]) (by simp [results, Tryz.results53, go_sem]) rfl ⟨rfl, ⟨_, H6.out⟩, K6.out⟩
end Go.Proofs.YtbhpnioggpgbhaaGreatDoor
