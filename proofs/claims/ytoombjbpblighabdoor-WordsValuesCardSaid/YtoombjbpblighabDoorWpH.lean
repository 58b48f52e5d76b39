/-
  Layer 22: the walk of WordsValues. Written by an AI agent (wph.py).
-/
import Derived.Test.YtoombjbpblighabDoorWpE
import Derived.Test.YtoombjbpblighabDoorWpG
namespace Go.Proofs.YtoombjbpblighabDoor
open Go Go.RowKit Go.Shelf
set_option linter.unusedVariables false
set_option linter.unusedSimpArgs false
set_option maxRecDepth 100000

theorem ext_list (A : ByteArray) (a : Nat) : (A.extract a A.size).data.toList = A.data.toList.drop a := by
  rw [ByteArray.data_extract, Array.toList_extract]
  show (A.data.toList.drop a).take (A.size - a) = _
  rw [List.take_of_length_le (by rw [List.length_drop, len_size]; exact Nat.le_refl _)]
set_option maxHeartbeats 16000000 in
theorem values_walk (n : Int) (hn : Rng n) (s : ByteArray) (w : World) (hw : WordW w) : Calls Tryd.prog 5 #[.int .i64 n, .string s] w fun e w' => e = .returned (.bool true) ∧ Keeps (fun _ => False) w w' := by
  have SC := Lib.hid (shown22_any w hw)
  have HW := Lib.hid hw
  clear hw
  by_cases h30 : 20 < s.size
  · skip
    have i30 : (20 : Int) < (s.size : Int) := by omega
    have j30 : (20 : Int) ≤ (s.size : Int) := by omega
    obtain ⟨X, hX⟩ : ∃ X, X = s.extract 0 20 := ⟨_, rfl⟩
    have hXs : X.size ≤ 20 := by rw [hX, ByteArray.size_extract]; omega
    have d30 : decide ((20 : Int) < (s.size : Int)) = true := decide_eq_true i30
    go_enter Tryd.func5, Tryd.ntmps5
    go_wp2_with fail
    refine SC.out.mono ?_
    rintro e wA ⟨rfl, kA⟩
    have KA := Lib.hid kA
    have HWA := Lib.hid (HW.out.keep kA)
    clear kA SC HW
    go_upto_region 4 with fail
    rw [← hX]
    clear hX i30 d30 h30 j30
    go_wp2_with fail
    go_loop [6, 7] (fun s6 s7 => ∃ (i : Nat) (b' : Bool), i ≤ X.size ∧ s7 = .int .i64 i ∧ s6 = .bool b' ∧ b' = (X.data.toList.take i).all chk2) (fun _ s7 => X.size + 1 - (intOf s7).toNat)
    case atStart => exact ⟨0, true, Nat.zero_le _, rfl, rfl, by simp⟩
    case round =>
      obtain ⟨i, b', hi, rfl, rfl, hb'⟩ := hrel
      have HB := Lib.hid hb'
      clear hb'
      by_cases h3 : i < X.size
      · have h3I : (i : Int) < (X.size : Int) := by omega
        have h3d : decide ((i : Int) < (X.size : Int)) = true := decide_eq_true h3I
        have hi0 : (0 : Int) ≤ (i : Int) := by omega
        have HT := Lib.hid (take_chk2 X i h3)
        cases b' with
        | false =>
          have HF : Hid (false = (X.data.toList.take (i + 1)).all chk2) := Lib.hid (by rw [HT.out, ← HB.out]; rfl)
          go_wp2
          go_round
          case rel => exact ⟨i + 1, false, by omega, by go_num, rfl, HF.out⟩
          case measure => simp [intOf]; omega
        | true =>
          have HF : Hid (chk2 (X[i]'h3) = (X.data.toList.take (i + 1)).all chk2) := Lib.hid (by rw [HT.out, ← HB.out]; rfl)
          by_cases g1 : 33 ≤ (X[i]'h3).toNat
          · have g1I : (33 : Int) ≤ ((X[i]'h3).toNat : Int) := by omega
            have g1d : decide ((33 : Int) ≤ ((X[i]'h3).toNat : Int)) = true := decide_eq_true g1I
            by_cases g2 : (X[i]'h3).toNat ≤ 126
            · have g2I : ((X[i]'h3).toNat : Int) ≤ 126 := by omega
              have g2d : decide (((X[i]'h3).toNat : Int) ≤ 126) = true := decide_eq_true g2I
              by_cases g3 : (X[i]'h3).toNat = 34
              · have g3I : ((X[i]'h3).toNat : Int) = 34 := by omega
                have g3d : (((X[i]'h3).toNat : Int) == 34) = true := beq_iff_eq.2 g3I
                have g3e : (((X[i]'h3).toNat : Int) != 34) = false := by rw [bne, g3d]; rfl
                have HC : Hid (chk2 (X[i]'h3) = false) := Lib.hid (by rw [chk2, decide_eq_false (show ¬ (X[i]'h3).toNat ≠ 34 from fun h => h g3), Bool.and_false, Bool.and_false])
                clear g1 g2 g3
                go_wp2
                go_round
                case rel => exact ⟨i + 1, false, by omega, by go_num, rfl, by rw [← HF.out, HC.out]⟩
                case measure => simp [intOf]; omega
              · have g3I : ¬ ((X[i]'h3).toNat : Int) = 34 := by omega
                have g3d : (((X[i]'h3).toNat : Int) == 34) = false := beq_eq_false_iff_ne.2 g3I
                have g3e : (((X[i]'h3).toNat : Int) != 34) = true := by rw [bne, g3d]; rfl
                have HC : Hid (chk2 (X[i]'h3) = true) := Lib.hid (by rw [chk2, decide_eq_true g1, decide_eq_true g2, decide_eq_true g3]; rfl)
                clear g1 g2 g3
                go_wp2
                go_round
                case rel => exact ⟨i + 1, true, by omega, by go_num, rfl, by rw [← HF.out, HC.out]⟩
                case measure => simp [intOf]; omega
            · have g2I : ¬ ((X[i]'h3).toNat : Int) ≤ 126 := by omega
              have g2d : decide (((X[i]'h3).toNat : Int) ≤ 126) = false := decide_eq_false g2I
              have HC : Hid (chk2 (X[i]'h3) = false) := Lib.hid (by rw [chk2, decide_eq_false g2, Bool.false_and, Bool.and_false])
              clear g1 g2
              go_wp2
              go_round
              case rel => exact ⟨i + 1, false, by omega, by go_num, rfl, by rw [← HF.out, HC.out]⟩
              case measure => simp [intOf]; omega
          · have g1I : ¬ (33 : Int) ≤ ((X[i]'h3).toNat : Int) := by omega
            have g1d : decide ((33 : Int) ≤ ((X[i]'h3).toNat : Int)) = false := decide_eq_false g1I
            have HC : Hid (chk2 (X[i]'h3) = false) := Lib.hid (by rw [chk2, decide_eq_false g1, Bool.false_and])
            clear g1
            go_wp2
            go_round
            case rel => exact ⟨i + 1, false, by omega, by go_num, rfl, by rw [← HF.out, HC.out]⟩
            case measure => simp [intOf]; omega
      · obtain rfl : i = X.size := by omega
        have h3n : ¬ (X.size : Int) < (X.size : Int) := by omega
        have h3d : decide ((X.size : Int) < (X.size : Int)) = false := decide_eq_false h3n
        have HSY : Hid (sayS X.data.toList = b') := Lib.hid (by rw [HB.out, List.take_of_length_le (by rw [len_size]; exact Nat.le_refl _), say_chk])
        have hXl : X.data.toList.length ≤ 20 := by rw [len_size]; exact hXs
        obtain ⟨A, hA⟩ : ∃ A, A = ofL (setLine (Lib.itoa n)) := ⟨_, rfl⟩
        have hAs : A.size ≤ 40 := by rw [hA, ofL_size]; have := itoa_len n hn; simp [setLine, setB]; omega
        have hA6 : 7 ≤ A.size := by rw [hA, ofL_size]; have := List.length_pos_iff.2 (itoa_ne n); simp [setLine, setB]; omega
        have LN : Hid (∀ wq, WordW wq → Calls Tryd.prog 9 #[.agg #[.string { data := #[115, 101, 116] }, .string { data := #[97] }, .string { data := #[] }, .int .i64 0, .int .i64 1, .int .i64 n, .string { data := #[] }]] wq fun e w' => e = .returned (.tuple #[.string A, .int .i64 0]) ∧ Keeps (fun _ => False) wq w') := Lib.hid fun wq h => (line_any (numC n) ⟨by simp [numC, setB], by simp [numC], Nat.zero_le _, Nat.zero_le _, rng0, hn⟩ wq h).mono fun e w' g => by
          obtain ⟨⟨t, x, he, g⟩, k⟩ := g
          rw [num_line n hn] at g
          obtain ⟨rfl, rfl⟩ := g
          rw [hA]
          exact ⟨he, k⟩
        have RN : Hid (∀ wq, WordW wq → Calls Tryd.prog 10 #[.string A] wq fun e w' => e = .returned (.tuple #[.agg #[.string { data := #[115, 101, 116] }, .string { data := #[97] }, .string { data := #[] }, .int .i64 0, .int .i64 1, .int .i64 n, .string { data := #[] }], .int .i64 0]) ∧ Keeps (fun _ => False) wq w') := Lib.hid fun wq h => by
          rw [hA]
          refine (read_made (setLine (Lib.itoa n)) (by rw [hA, ofL_size] at hAs; omega) wq h).mono fun e w' g => ?_
          obtain ⟨⟨t, x, he, g⟩, k⟩ := g
          rw [num_read n hn] at g
          obtain ⟨rfl, rfl⟩ := g
          exact ⟨he, k⟩
        have HA := Lib.hid hA
        clear hA HB h3
        go_wp2_with fail
        refine (LN.out _ HWA.out).mono ?_
        rintro e w1 ⟨rfl, k1⟩
        have KW1 := Lib.hid (KA.out.trans k1 (fun _ _ h => h))
        have HW1 := Lib.hid (HWA.out.keep k1)
        clear k1 LN KA HWA
        go_wp2_with fail
        refine (RN.out _ HW1.out).mono ?_
        rintro e w2 ⟨rfl, k2⟩
        have KW2 := Lib.hid (KW1.out.trans k2 (fun _ _ h => h))
        have HW2 := Lib.hid (HW1.out.keep k2)
        clear k2 RN KW1 HW1
        have LT : Hid (∀ wq, WordW wq → Calls Tryd.prog 9 #[.agg #[.string { data := #[115, 101, 116] }, .string { data := #[97] }, .string { data := #[] }, .int .i64 0, .int .i64 3, .int .i64 0, .string X]] wq fun e w' => LineE (textC X.data.toList) wq e w') := Lib.hid fun wq h => by
          have g := line_any (textC X.data.toList) ⟨by simp [textC, setB], by simp [textC], Nat.zero_le _, Nat.le_trans hXl (by omega), rng0, rng0⟩ wq h
          rw [cmdV, show ofL (textC X.data.toList).v.s = X from ofL_self X] at g
          exact g
        go_wp2_with fail
        refine (LT.out _ (HW2.out.keep ((Keeps.refl _ _).alloc _))).mono ?_
        rintro e w3 ⟨⟨t, x, rfl, hr⟩, k3⟩
        have a4 : w3.cell? ⟨w2.heap.size, 4, none⟩ = some (.int .i64 1) := (k3.cell (by simp) (fun h => h)).trans (by simp)
        have a5 : w3.cell? ⟨w2.heap.size, 5, none⟩ = some (.int .i64 n) := (k3.cell (by simp) (fun h => h)).trans (by simp)
        have HR := Lib.hid hr
        have K3 := Lib.hid ((KW2.out.alloc _).trans k3 (fun _ _ h => h))
        have HW3 := Lib.hid ((HW2.out.keep ((Keeps.refl _ _).alloc _)).keep k3)
        clear k3 hr LT HW2 KW2
        have m6 : min (A.size : Int) 6 = 6 := by omega
        have hE : { data := #[115, 101, 116, 32, 97, 32, 48] } ++ A.extract 6 A.size = ofL (setLine (48 :: Lib.itoa n)) := bytes_ext (by rw [app_list, ext_list, HA.out, ofL_list, ofL_list]; rfl)
        have RZ : Hid (∀ wq, WordW wq → Calls Tryd.prog 10 #[.string ({ data := #[115, 101, 116, 32, 97, 32, 48] } ++ A.extract 6 A.size)] wq fun e w' => e = .returned (.tuple #[.agg #[.string { data := #[] }, .string { data := #[] }, .string { data := #[] }, .int .i64 0, .int .i64 0, .int .i64 0, .string { data := #[] }], .int .i64 80]) ∧ Keeps (fun _ => False) wq w') := Lib.hid fun wq h => by
          rw [hE]
          refine (read_made (setLine (48 :: Lib.itoa n)) (by have := itoa_len n hn; simp [setLine, setB]; omega) wq h).mono fun e w' g => ?_
          obtain ⟨⟨t, x, he, g⟩, k⟩ := g
          rw [zero_read n] at g
          obtain ⟨rfl, rfl⟩ := g
          exact ⟨he, k⟩
        clear hE
        go_wp2_with fail
        refine (RZ.out _ HW3.out).mono ?_
        rintro e w4 ⟨rfl, k4⟩
        have l4 := cell_ltk a4
        have b4 := (k4.cell l4 (fun h => h)).trans a4
        have b5 := (k4.cell l4 (fun h => h)).trans a5
        have hl := cell_ltk b4
        have K4 := Lib.hid (K3.out.trans k4 (fun _ _ h => h))
        have HW4 := Lib.hid ((HW3.out.keep k4).keep ((Keeps.refl _ _).alloc (.cells #[.string { data := #[] }, .string { data := #[] }, .string { data := #[] }, .int .i64 0, .int .i64 0, .int .i64 0, .string { data := #[] }] 25)))
        have hr := HR.out
        clear k4 RZ a4 a5 l4 m6 hA6 hAs HR HW3 K3
        cases b' with
        | false =>
          rw [text_bad _ hXl HSY.out] at hr
          obtain ⟨rfl, rfl⟩ := hr
          go_wp2
          go_ret
          exact ⟨rfl, K4.out.alloc _⟩
        | true =>
          rw [text_line _ hXl HSY.out] at hr
          obtain ⟨rfl, rfl⟩ := hr
          obtain ⟨T, hT⟩ : ∃ T, T = ofL (setLine (34 :: (X.data.toList ++ [34]))) := ⟨_, rfl⟩
          have RT : Hid (∀ wq, WordW wq → Calls Tryd.prog 10 #[.string T] wq fun e w' => e = .returned (.tuple #[.agg #[.string { data := #[115, 101, 116] }, .string { data := #[97] }, .string { data := #[] }, .int .i64 0, .int .i64 3, .int .i64 0, .string X], .int .i64 0]) ∧ Keeps (fun _ => False) wq w') := Lib.hid fun wq h => by
            rw [hT]
            refine (read_made (setLine (34 :: (X.data.toList ++ [34]))) (by simp [setLine, setB]; omega) wq h).mono fun e w' g => ?_
            obtain ⟨⟨t, x, he, g⟩, k⟩ := g
            rw [text_read _ hXl HSY.out] at g
            obtain ⟨rfl, rfl⟩ := g
            rw [cmdV, show ofL (textC X.data.toList).v.s = X from ofL_self X] at he
            exact ⟨he, k⟩
          have hO : { data := #[115, 101, 116, 32, 97, 32, 34] } ++ X = ofL (setLine (34 :: X.data.toList)) := bytes_ext (by rw [app_list, ofL_list]; rfl)
          have RO : Hid (∀ wq, WordW wq → Calls Tryd.prog 10 #[.string ({ data := #[115, 101, 116, 32, 97, 32, 34] } ++ X)] wq fun e w' => e = .returned (.tuple #[.agg #[.string { data := #[] }, .string { data := #[] }, .string { data := #[] }, .int .i64 0, .int .i64 0, .int .i64 0, .string { data := #[] }], .int .i64 80]) ∧ Keeps (fun _ => False) wq w') := Lib.hid fun wq h => by
            rw [hO]
            refine (read_made (setLine (34 :: X.data.toList)) (by simp [setLine, setB]; omega) wq h).mono fun e w' g => ?_
            obtain ⟨⟨t, x, he, g⟩, k⟩ := g
            rw [open_read _ HSY.out] at g
            obtain ⟨rfl, rfl⟩ := g
            exact ⟨he, k⟩
          have hTq : { data := #[115, 101, 116, 32, 97, 32, 34] } ++ X ++ { data := #[34] } = T := bytes_ext (by rw [hT, app_list, app_list, ofL_list]; rfl)
          have bT : (T.toList == ({ data := #[115, 101, 116, 32, 97, 32, 34] } ++ X ++ { data := #[34] }).toList) = true := by rw [hTq]; simp
          have bX := beq_self X
          rw [← hT]
          clear hO hTq hT HSY hXl
          go_wp2_with fail
          refine (RT.out _ HW4.out).mono ?_
          rintro e w5 ⟨rfl, k5⟩
          have K5 := Lib.hid ((K4.out.alloc (.cells #[.string { data := #[] }, .string { data := #[] }, .string { data := #[] }, .int .i64 0, .int .i64 0, .int .i64 0, .string { data := #[] }] 25)).trans k5 (fun _ _ h => h))
          have HW5 := Lib.hid ((HW4.out.keep k5).keep ((Keeps.refl _ _).alloc (.cells #[.string { data := #[115, 101, 116] }, .string { data := #[97] }, .string { data := #[] }, .int .i64 0, .int .i64 3, .int .i64 0, .string X] 25)))
          clear k5 RT K4 HW4 b4 b5 hl
          go_wp2_with fail
          refine (RO.out _ HW5.out).mono ?_
          rintro e w6 ⟨rfl, k6⟩
          have e4 : w6.cell? ⟨w5.heap.size, 4, none⟩ = some (.int .i64 3) := (k6.cell (by simp) (fun h => h)).trans (by simp)
          have e6 : w6.cell? ⟨w5.heap.size, 6, none⟩ = some (.string X) := (k6.cell (by simp) (fun h => h)).trans (by simp)
          have hl6 := cell_ltk e4
          have K6 := Lib.hid ((K5.out.alloc (.cells #[.string { data := #[115, 101, 116] }, .string { data := #[97] }, .string { data := #[] }, .int .i64 0, .int .i64 3, .int .i64 0, .string X] 25)).trans k6 (fun _ _ h => h))
          clear k6 RO HW5 K5
          go_wp2
          go_ret
          exact ⟨rfl, K6.out.alloc _⟩
  · skip
    have i30 : ¬ (20 : Int) < (s.size : Int) := by omega
    obtain ⟨X, hX⟩ : ∃ X, X = s := ⟨_, rfl⟩
    have hXs : X.size ≤ 20 := by rw [hX]; omega
    have d30 : decide ((20 : Int) < (s.size : Int)) = false := decide_eq_false i30
    go_enter Tryd.func5, Tryd.ntmps5
    go_wp2_with fail
    refine SC.out.mono ?_
    rintro e wA ⟨rfl, kA⟩
    have KA := Lib.hid kA
    have HWA := Lib.hid (HW.out.keep kA)
    clear kA SC HW
    go_upto_region 4 with fail
    rw [← hX]
    clear hX i30 d30 h30
    go_wp2_with fail
    go_loop [6, 7] (fun s6 s7 => ∃ (i : Nat) (b' : Bool), i ≤ X.size ∧ s7 = .int .i64 i ∧ s6 = .bool b' ∧ b' = (X.data.toList.take i).all chk2) (fun _ s7 => X.size + 1 - (intOf s7).toNat)
    case atStart => exact ⟨0, true, Nat.zero_le _, rfl, rfl, by simp⟩
    case round =>
      obtain ⟨i, b', hi, rfl, rfl, hb'⟩ := hrel
      have HB := Lib.hid hb'
      clear hb'
      by_cases h3 : i < X.size
      · have h3I : (i : Int) < (X.size : Int) := by omega
        have h3d : decide ((i : Int) < (X.size : Int)) = true := decide_eq_true h3I
        have hi0 : (0 : Int) ≤ (i : Int) := by omega
        have HT := Lib.hid (take_chk2 X i h3)
        cases b' with
        | false =>
          have HF : Hid (false = (X.data.toList.take (i + 1)).all chk2) := Lib.hid (by rw [HT.out, ← HB.out]; rfl)
          go_wp2
          go_round
          case rel => exact ⟨i + 1, false, by omega, by go_num, rfl, HF.out⟩
          case measure => simp [intOf]; omega
        | true =>
          have HF : Hid (chk2 (X[i]'h3) = (X.data.toList.take (i + 1)).all chk2) := Lib.hid (by rw [HT.out, ← HB.out]; rfl)
          by_cases g1 : 33 ≤ (X[i]'h3).toNat
          · have g1I : (33 : Int) ≤ ((X[i]'h3).toNat : Int) := by omega
            have g1d : decide ((33 : Int) ≤ ((X[i]'h3).toNat : Int)) = true := decide_eq_true g1I
            by_cases g2 : (X[i]'h3).toNat ≤ 126
            · have g2I : ((X[i]'h3).toNat : Int) ≤ 126 := by omega
              have g2d : decide (((X[i]'h3).toNat : Int) ≤ 126) = true := decide_eq_true g2I
              by_cases g3 : (X[i]'h3).toNat = 34
              · have g3I : ((X[i]'h3).toNat : Int) = 34 := by omega
                have g3d : (((X[i]'h3).toNat : Int) == 34) = true := beq_iff_eq.2 g3I
                have g3e : (((X[i]'h3).toNat : Int) != 34) = false := by rw [bne, g3d]; rfl
                have HC : Hid (chk2 (X[i]'h3) = false) := Lib.hid (by rw [chk2, decide_eq_false (show ¬ (X[i]'h3).toNat ≠ 34 from fun h => h g3), Bool.and_false, Bool.and_false])
                clear g1 g2 g3
                go_wp2
                go_round
                case rel => exact ⟨i + 1, false, by omega, by go_num, rfl, by rw [← HF.out, HC.out]⟩
                case measure => simp [intOf]; omega
              · have g3I : ¬ ((X[i]'h3).toNat : Int) = 34 := by omega
                have g3d : (((X[i]'h3).toNat : Int) == 34) = false := beq_eq_false_iff_ne.2 g3I
                have g3e : (((X[i]'h3).toNat : Int) != 34) = true := by rw [bne, g3d]; rfl
                have HC : Hid (chk2 (X[i]'h3) = true) := Lib.hid (by rw [chk2, decide_eq_true g1, decide_eq_true g2, decide_eq_true g3]; rfl)
                clear g1 g2 g3
                go_wp2
                go_round
                case rel => exact ⟨i + 1, true, by omega, by go_num, rfl, by rw [← HF.out, HC.out]⟩
                case measure => simp [intOf]; omega
            · have g2I : ¬ ((X[i]'h3).toNat : Int) ≤ 126 := by omega
              have g2d : decide (((X[i]'h3).toNat : Int) ≤ 126) = false := decide_eq_false g2I
              have HC : Hid (chk2 (X[i]'h3) = false) := Lib.hid (by rw [chk2, decide_eq_false g2, Bool.false_and, Bool.and_false])
              clear g1 g2
              go_wp2
              go_round
              case rel => exact ⟨i + 1, false, by omega, by go_num, rfl, by rw [← HF.out, HC.out]⟩
              case measure => simp [intOf]; omega
          · have g1I : ¬ (33 : Int) ≤ ((X[i]'h3).toNat : Int) := by omega
            have g1d : decide ((33 : Int) ≤ ((X[i]'h3).toNat : Int)) = false := decide_eq_false g1I
            have HC : Hid (chk2 (X[i]'h3) = false) := Lib.hid (by rw [chk2, decide_eq_false g1, Bool.false_and])
            clear g1
            go_wp2
            go_round
            case rel => exact ⟨i + 1, false, by omega, by go_num, rfl, by rw [← HF.out, HC.out]⟩
            case measure => simp [intOf]; omega
      · obtain rfl : i = X.size := by omega
        have h3n : ¬ (X.size : Int) < (X.size : Int) := by omega
        have h3d : decide ((X.size : Int) < (X.size : Int)) = false := decide_eq_false h3n
        have HSY : Hid (sayS X.data.toList = b') := Lib.hid (by rw [HB.out, List.take_of_length_le (by rw [len_size]; exact Nat.le_refl _), say_chk])
        have hXl : X.data.toList.length ≤ 20 := by rw [len_size]; exact hXs
        obtain ⟨A, hA⟩ : ∃ A, A = ofL (setLine (Lib.itoa n)) := ⟨_, rfl⟩
        have hAs : A.size ≤ 40 := by rw [hA, ofL_size]; have := itoa_len n hn; simp [setLine, setB]; omega
        have hA6 : 7 ≤ A.size := by rw [hA, ofL_size]; have := List.length_pos_iff.2 (itoa_ne n); simp [setLine, setB]; omega
        have LN : Hid (∀ wq, WordW wq → Calls Tryd.prog 9 #[.agg #[.string { data := #[115, 101, 116] }, .string { data := #[97] }, .string { data := #[] }, .int .i64 0, .int .i64 1, .int .i64 n, .string { data := #[] }]] wq fun e w' => e = .returned (.tuple #[.string A, .int .i64 0]) ∧ Keeps (fun _ => False) wq w') := Lib.hid fun wq h => (line_any (numC n) ⟨by simp [numC, setB], by simp [numC], Nat.zero_le _, Nat.zero_le _, rng0, hn⟩ wq h).mono fun e w' g => by
          obtain ⟨⟨t, x, he, g⟩, k⟩ := g
          rw [num_line n hn] at g
          obtain ⟨rfl, rfl⟩ := g
          rw [hA]
          exact ⟨he, k⟩
        have RN : Hid (∀ wq, WordW wq → Calls Tryd.prog 10 #[.string A] wq fun e w' => e = .returned (.tuple #[.agg #[.string { data := #[115, 101, 116] }, .string { data := #[97] }, .string { data := #[] }, .int .i64 0, .int .i64 1, .int .i64 n, .string { data := #[] }], .int .i64 0]) ∧ Keeps (fun _ => False) wq w') := Lib.hid fun wq h => by
          rw [hA]
          refine (read_made (setLine (Lib.itoa n)) (by rw [hA, ofL_size] at hAs; omega) wq h).mono fun e w' g => ?_
          obtain ⟨⟨t, x, he, g⟩, k⟩ := g
          rw [num_read n hn] at g
          obtain ⟨rfl, rfl⟩ := g
          exact ⟨he, k⟩
        have HA := Lib.hid hA
        clear hA HB h3
        go_wp2_with fail
        refine (LN.out _ HWA.out).mono ?_
        rintro e w1 ⟨rfl, k1⟩
        have KW1 := Lib.hid (KA.out.trans k1 (fun _ _ h => h))
        have HW1 := Lib.hid (HWA.out.keep k1)
        clear k1 LN KA HWA
        go_wp2_with fail
        refine (RN.out _ HW1.out).mono ?_
        rintro e w2 ⟨rfl, k2⟩
        have KW2 := Lib.hid (KW1.out.trans k2 (fun _ _ h => h))
        have HW2 := Lib.hid (HW1.out.keep k2)
        clear k2 RN KW1 HW1
        have LT : Hid (∀ wq, WordW wq → Calls Tryd.prog 9 #[.agg #[.string { data := #[115, 101, 116] }, .string { data := #[97] }, .string { data := #[] }, .int .i64 0, .int .i64 3, .int .i64 0, .string X]] wq fun e w' => LineE (textC X.data.toList) wq e w') := Lib.hid fun wq h => by
          have g := line_any (textC X.data.toList) ⟨by simp [textC, setB], by simp [textC], Nat.zero_le _, Nat.le_trans hXl (by omega), rng0, rng0⟩ wq h
          rw [cmdV, show ofL (textC X.data.toList).v.s = X from ofL_self X] at g
          exact g
        go_wp2_with fail
        refine (LT.out _ (HW2.out.keep ((Keeps.refl _ _).alloc _))).mono ?_
        rintro e w3 ⟨⟨t, x, rfl, hr⟩, k3⟩
        have a4 : w3.cell? ⟨w2.heap.size, 4, none⟩ = some (.int .i64 1) := (k3.cell (by simp) (fun h => h)).trans (by simp)
        have a5 : w3.cell? ⟨w2.heap.size, 5, none⟩ = some (.int .i64 n) := (k3.cell (by simp) (fun h => h)).trans (by simp)
        have HR := Lib.hid hr
        have K3 := Lib.hid ((KW2.out.alloc _).trans k3 (fun _ _ h => h))
        have HW3 := Lib.hid ((HW2.out.keep ((Keeps.refl _ _).alloc _)).keep k3)
        clear k3 hr LT HW2 KW2
        have m6 : min (A.size : Int) 6 = 6 := by omega
        have hE : { data := #[115, 101, 116, 32, 97, 32, 48] } ++ A.extract 6 A.size = ofL (setLine (48 :: Lib.itoa n)) := bytes_ext (by rw [app_list, ext_list, HA.out, ofL_list, ofL_list]; rfl)
        have RZ : Hid (∀ wq, WordW wq → Calls Tryd.prog 10 #[.string ({ data := #[115, 101, 116, 32, 97, 32, 48] } ++ A.extract 6 A.size)] wq fun e w' => e = .returned (.tuple #[.agg #[.string { data := #[] }, .string { data := #[] }, .string { data := #[] }, .int .i64 0, .int .i64 0, .int .i64 0, .string { data := #[] }], .int .i64 80]) ∧ Keeps (fun _ => False) wq w') := Lib.hid fun wq h => by
          rw [hE]
          refine (read_made (setLine (48 :: Lib.itoa n)) (by have := itoa_len n hn; simp [setLine, setB]; omega) wq h).mono fun e w' g => ?_
          obtain ⟨⟨t, x, he, g⟩, k⟩ := g
          rw [zero_read n] at g
          obtain ⟨rfl, rfl⟩ := g
          exact ⟨he, k⟩
        clear hE
        go_wp2_with fail
        refine (RZ.out _ HW3.out).mono ?_
        rintro e w4 ⟨rfl, k4⟩
        have l4 := cell_ltk a4
        have b4 := (k4.cell l4 (fun h => h)).trans a4
        have b5 := (k4.cell l4 (fun h => h)).trans a5
        have hl := cell_ltk b4
        have K4 := Lib.hid (K3.out.trans k4 (fun _ _ h => h))
        have HW4 := Lib.hid ((HW3.out.keep k4).keep ((Keeps.refl _ _).alloc (.cells #[.string { data := #[] }, .string { data := #[] }, .string { data := #[] }, .int .i64 0, .int .i64 0, .int .i64 0, .string { data := #[] }] 25)))
        have hr := HR.out
        clear k4 RZ a4 a5 l4 m6 hA6 hAs HR HW3 K3
        cases b' with
        | false =>
          rw [text_bad _ hXl HSY.out] at hr
          obtain ⟨rfl, rfl⟩ := hr
          go_wp2
          go_ret
          exact ⟨rfl, K4.out.alloc _⟩
        | true =>
          rw [text_line _ hXl HSY.out] at hr
          obtain ⟨rfl, rfl⟩ := hr
          obtain ⟨T, hT⟩ : ∃ T, T = ofL (setLine (34 :: (X.data.toList ++ [34]))) := ⟨_, rfl⟩
          have RT : Hid (∀ wq, WordW wq → Calls Tryd.prog 10 #[.string T] wq fun e w' => e = .returned (.tuple #[.agg #[.string { data := #[115, 101, 116] }, .string { data := #[97] }, .string { data := #[] }, .int .i64 0, .int .i64 3, .int .i64 0, .string X], .int .i64 0]) ∧ Keeps (fun _ => False) wq w') := Lib.hid fun wq h => by
            rw [hT]
            refine (read_made (setLine (34 :: (X.data.toList ++ [34]))) (by simp [setLine, setB]; omega) wq h).mono fun e w' g => ?_
            obtain ⟨⟨t, x, he, g⟩, k⟩ := g
            rw [text_read _ hXl HSY.out] at g
            obtain ⟨rfl, rfl⟩ := g
            rw [cmdV, show ofL (textC X.data.toList).v.s = X from ofL_self X] at he
            exact ⟨he, k⟩
          have hO : { data := #[115, 101, 116, 32, 97, 32, 34] } ++ X = ofL (setLine (34 :: X.data.toList)) := bytes_ext (by rw [app_list, ofL_list]; rfl)
          have RO : Hid (∀ wq, WordW wq → Calls Tryd.prog 10 #[.string ({ data := #[115, 101, 116, 32, 97, 32, 34] } ++ X)] wq fun e w' => e = .returned (.tuple #[.agg #[.string { data := #[] }, .string { data := #[] }, .string { data := #[] }, .int .i64 0, .int .i64 0, .int .i64 0, .string { data := #[] }], .int .i64 80]) ∧ Keeps (fun _ => False) wq w') := Lib.hid fun wq h => by
            rw [hO]
            refine (read_made (setLine (34 :: X.data.toList)) (by simp [setLine, setB]; omega) wq h).mono fun e w' g => ?_
            obtain ⟨⟨t, x, he, g⟩, k⟩ := g
            rw [open_read _ HSY.out] at g
            obtain ⟨rfl, rfl⟩ := g
            exact ⟨he, k⟩
          have hTq : { data := #[115, 101, 116, 32, 97, 32, 34] } ++ X ++ { data := #[34] } = T := bytes_ext (by rw [hT, app_list, app_list, ofL_list]; rfl)
          have bT : (T.toList == ({ data := #[115, 101, 116, 32, 97, 32, 34] } ++ X ++ { data := #[34] }).toList) = true := by rw [hTq]; simp
          have bX := beq_self X
          rw [← hT]
          clear hO hTq hT HSY hXl
          go_wp2_with fail
          refine (RT.out _ HW4.out).mono ?_
          rintro e w5 ⟨rfl, k5⟩
          have K5 := Lib.hid ((K4.out.alloc (.cells #[.string { data := #[] }, .string { data := #[] }, .string { data := #[] }, .int .i64 0, .int .i64 0, .int .i64 0, .string { data := #[] }] 25)).trans k5 (fun _ _ h => h))
          have HW5 := Lib.hid ((HW4.out.keep k5).keep ((Keeps.refl _ _).alloc (.cells #[.string { data := #[115, 101, 116] }, .string { data := #[97] }, .string { data := #[] }, .int .i64 0, .int .i64 3, .int .i64 0, .string X] 25)))
          clear k5 RT K4 HW4 b4 b5 hl
          go_wp2_with fail
          refine (RO.out _ HW5.out).mono ?_
          rintro e w6 ⟨rfl, k6⟩
          have e4 : w6.cell? ⟨w5.heap.size, 4, none⟩ = some (.int .i64 3) := (k6.cell (by simp) (fun h => h)).trans (by simp)
          have e6 : w6.cell? ⟨w5.heap.size, 6, none⟩ = some (.string X) := (k6.cell (by simp) (fun h => h)).trans (by simp)
          have hl6 := cell_ltk e4
          have K6 := Lib.hid ((K5.out.alloc (.cells #[.string { data := #[115, 101, 116] }, .string { data := #[97] }, .string { data := #[] }, .int .i64 0, .int .i64 3, .int .i64 0, .string X] 25)).trans k6 (fun _ _ h => h))
          clear k6 RO HW5 K5
          go_wp2
          go_ret
          exact ⟨rfl, K6.out.alloc _⟩
end Go.Proofs.YtoombjbpblighabDoor
