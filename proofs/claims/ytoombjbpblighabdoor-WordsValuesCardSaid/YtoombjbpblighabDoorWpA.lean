/-
  Layer 22: the walk of WordsBools. Written by an AI agent (wpa.py).
-/
import Derived.Test.YtoombjbpblighabDoorWoY
import Derived.Test.YtoombjbpblighabDoorWoZ
namespace Go.Proofs.YtoombjbpblighabDoor
open Go Go.RowKit Go.Shelf
set_option linter.unusedVariables false
set_option linter.unusedSimpArgs false
set_option maxRecDepth 100000

theorem beq_self (s : ByteArray) : (s.toList == s.toList) = true := by simp
set_option maxHeartbeats 4000000 in
theorem shown22_any (w : World) (hw : WordW w) : Calls Tryd.prog 7 #[] w fun e w' => e = .returned (.bool true) ∧ Keeps (fun _ => False) w w' := by
  have RC : Hid (Calls Tryd.prog 10 #[.string { data := #[102, 111, 114, 107, 32, 98, 32, 97, 32, 45, 53] }] w fun e w' => e = .returned (.tuple #[.agg #[.string (ofL [102, 111, 114, 107]), .string (ofL [98]), .string (ofL [97]), .int .i64 0, .int .i64 1, .int .i64 (-5), .string (ofL [])], .int .i64 0]) ∧ Keeps (fun _ => False) w w') := Lib.hid ((read_any { data := #[102, 111, 114, 107, 32, 98, 32, 97, 32, 45, 53] } (by decide) w hw).mono fun e w' h => by
    obtain ⟨⟨c, x, he, h⟩, k⟩ := h
    rw [show ({ data := #[102, 111, 114, 107, 32, 98, 32, 97, 32, 45, 53] } : ByteArray).data.toList = shownB from rfl, shown_read] at h
    obtain ⟨rfl, rfl⟩ := h
    exact ⟨he, k⟩)
  have q1 : ((ofL [102, 111, 114, 107]).toList == [102, 111, 114, 107]) = true := by rw [Lib.toList_data, ofL_list]; simp
  have q2 : ((ofL [98]).toList == [98]) = true := by rw [Lib.toList_data, ofL_list]; simp
  have q3 : ((ofL [97]).toList == [97]) = true := by rw [Lib.toList_data, ofL_list]; simp
  clear hw
  go_enter Tryd.func7, Tryd.ntmps7
  go_wp2_with fail
  refine RC.out.mono ?_
  rintro e w1 ⟨rfl, k1⟩
  have K1 : Hid (Keeps (fun _ => False) w w1) := Lib.hid k1
  clear k1 RC
  go_wp2
  go_ret
  exact ⟨rfl, K1.out.alloc _⟩

def chk (c : UInt8) : Bool := decide (33 ≤ c.toNat) && decide (c.toNat ≤ 126)
theorem take_chk (X : ByteArray) (i : Nat) (h : i < X.size) : (X.data.toList.take (i + 1)).all chk = ((X.data.toList.take i).all chk && chk (X[i]'h)) := by
  rw [List.take_succ_eq_append_getElem (by rw [len_size]; exact h), List.all_append]
  simp
  rfl
theorem name_chk (X : ByteArray) : nameN X.data.toList = ((decide (1 ≤ X.size) && decide (X.size ≤ 20)) && (X.data.toList.take X.size).all chk) := by
  rw [List.take_of_length_le (by rw [len_size]; exact Nat.le_refl _), nameN, len_size, Bool.and_assoc]
  rfl
theorem set_line (X : ByteArray) (t : List UInt8) : ({ data := #[115, 101, 116, 32] } ++ X ++ ofL (32 :: t)).data.toList = setB ++ 32 :: (X.data.toList ++ 32 :: t) := by
  rw [app_list, app_list, ofL_list]
  simp [setB]
def ReadC (X : ByteArray) (t : List UInt8) (c : Cm) (x : Int) (wA : World) : Prop := ∀ w, Keeps (fun _ => False) wA w → Calls Tryd.prog 10 #[.string ({ data := #[115, 101, 116, 32] } ++ X ++ ofL (32 :: t))] w fun e w' => e = .returned (.tuple #[cmdV c, .int .i64 x]) ∧ Keeps (fun _ => False) w w'
theorem readC_some {X : ByteArray} {t : List UInt8} {c : Cm} {wA : World} (hX : X.size ≤ 30) (ht : t.length ≤ 10) (hW : WordW wA) (h : readN (setB ++ 32 :: (X.data.toList ++ 32 :: t)) = some c) : ReadC X t c 0 wA := fun w k => (read_any _ (by rw [← len_size, set_line]; simp [setB]; omega) w (hW.keep k)).mono fun e w' g => by
  obtain ⟨⟨c', x, he, g⟩, k⟩ := g
  rw [set_line, h] at g
  obtain ⟨rfl, rfl⟩ := g
  exact ⟨he, k⟩
theorem readC_none {X : ByteArray} {t : List UInt8} {wA : World} (hX : X.size ≤ 30) (ht : t.length ≤ 10) (hW : WordW wA) (h : readN (setB ++ 32 :: (X.data.toList ++ 32 :: t)) = none) : ReadC X t (zeroC []) 80 wA := fun w k => (read_any _ (by rw [← len_size, set_line]; simp [setB]; omega) w (hW.keep k)).mono fun e w' g => by
  obtain ⟨⟨c', x, he, g⟩, k⟩ := g
  rw [set_line, h] at g
  obtain ⟨rfl, rfl⟩ := g
  exact ⟨he, k⟩
set_option maxHeartbeats 16000000 in
theorem bools_walk (s : ByteArray) (w : World) (hw : WordW w) : Calls Tryd.prog 6 #[.string s] w fun e w' => e = .returned (.bool true) ∧ Keeps (fun _ => False) w w' := by
  have SC := Lib.hid (shown22_any w hw)
  have HW := Lib.hid hw
  clear hw
  by_cases h30 : 30 < s.size
  · skip
    have i30 : (30 : Int) < (s.size : Int) := by omega
    have j30 : (30 : Int) ≤ (s.size : Int) := by omega
    obtain ⟨X, hX⟩ : ∃ X, X = s.extract 0 30 := ⟨_, rfl⟩
    have hXs : X.size ≤ 30 := by rw [hX, ByteArray.size_extract]; omega
    have d30 : decide ((30 : Int) < (s.size : Int)) = true := decide_eq_true i30
    go_enter Tryd.func6, Tryd.ntmps6
    go_wp2_with fail
    refine SC.out.mono ?_
    rintro e wA ⟨rfl, kA⟩
    have KA := Lib.hid kA
    have HWA := Lib.hid (HW.out.keep kA)
    clear kA SC HW
    go_upto_region 4 with fail
    rw [← hX]
    have HXE := Lib.hid hX
    clear hX i30 d30 h30 j30
    have HNC := Lib.hid (name_chk X)
    go_cut [4] from 18 to 25 (fun s4 wx => s4 = .bool (decide (1 ≤ X.size) && decide (X.size ≤ 20)) ∧ wx = wA)
    case first =>
      by_cases h1 : 1 ≤ X.size
      · have h1I : (1 : Int) ≤ (X.size : Int) := by omega
        have h1d : decide ((1 : Int) ≤ (X.size : Int)) = true := decide_eq_true h1I
        by_cases h2 : X.size ≤ 20
        · have h2I : (X.size : Int) ≤ 20 := by omega
          have h2d : decide ((X.size : Int) ≤ 20) = true := decide_eq_true h2I
          go_wp2
          go_meet
          exact ⟨by rw [decide_eq_true h1, decide_eq_true h2]; rfl, rfl⟩
        · have h2I : ¬ (X.size : Int) ≤ 20 := by omega
          have h2d : decide ((X.size : Int) ≤ 20) = false := decide_eq_false h2I
          go_wp2
          go_meet
          exact ⟨by rw [decide_eq_true h1, decide_eq_false h2]; rfl, rfl⟩
      · have h1I : ¬ (1 : Int) ≤ (X.size : Int) := by omega
        have h1d : decide ((1 : Int) ≤ (X.size : Int)) = false := decide_eq_false h1I
        go_wp2
        go_meet
        exact ⟨by rw [decide_eq_false h1]; rfl, rfl⟩
    case rest =>
      obtain ⟨rfl, rfl⟩ := hcut
      obtain ⟨b, hb⟩ : ∃ b, b = (decide (1 ≤ X.size) && decide (X.size ≤ 20)) := ⟨_, rfl⟩
      rw [← hb] at HNC ⊢
      clear hb
      go_wp2_with fail
      go_loop [4, 5] (fun s4 s5 => ∃ (i : Nat) (b' : Bool), i ≤ X.size ∧ s5 = .int .i64 i ∧ s4 = .bool b' ∧ b' = (b && (X.data.toList.take i).all chk)) (fun _ s5 => X.size + 1 - (intOf s5).toNat)
      case atStart => exact ⟨0, b, Nat.zero_le _, rfl, rfl, by simp⟩
      case round =>
        obtain ⟨i, b', hi, rfl, rfl, hb'⟩ := hrel
        have HB := Lib.hid hb'
        clear hb'
        by_cases h3 : i < X.size
        · have h3I : (i : Int) < (X.size : Int) := by omega
          have h3d : decide ((i : Int) < (X.size : Int)) = true := decide_eq_true h3I
          have hi0 : (0 : Int) ≤ (i : Int) := by omega
          have HT := Lib.hid (take_chk X i h3)
          cases b' with
          | false =>
            have HF : Hid (false = (b && (X.data.toList.take (i + 1)).all chk)) := Lib.hid (by rw [HT.out, ← Bool.and_assoc, ← HB.out]; rfl)
            go_wp2
            go_round
            case rel => exact ⟨i + 1, false, by omega, by go_num, rfl, HF.out⟩
            case measure => simp [intOf]; omega
          | true =>
            have HF : Hid (chk (X[i]'h3) = (b && (X.data.toList.take (i + 1)).all chk)) := Lib.hid (by rw [HT.out, ← Bool.and_assoc, ← HB.out]; rfl)
            by_cases g1 : 33 ≤ (X[i]'h3).toNat
            · have g1I : (33 : Int) ≤ ((X[i]'h3).toNat : Int) := by omega
              have g1d : decide ((33 : Int) ≤ ((X[i]'h3).toNat : Int)) = true := decide_eq_true g1I
              by_cases g2 : (X[i]'h3).toNat ≤ 126
              · have g2I : ((X[i]'h3).toNat : Int) ≤ 126 := by omega
                have g2d : decide (((X[i]'h3).toNat : Int) ≤ 126) = true := decide_eq_true g2I
                have HC : Hid (chk (X[i]'h3) = true) := Lib.hid (by rw [chk, decide_eq_true g1, decide_eq_true g2]; rfl)
                clear g1 g2
                go_wp2
                go_round
                case rel => exact ⟨i + 1, true, by omega, by go_num, rfl, by rw [← HF.out, HC.out]⟩
                case measure => simp [intOf]; omega
              · have g2I : ¬ ((X[i]'h3).toNat : Int) ≤ 126 := by omega
                have g2d : decide (((X[i]'h3).toNat : Int) ≤ 126) = false := decide_eq_false g2I
                have HC : Hid (chk (X[i]'h3) = false) := Lib.hid (by rw [chk, decide_eq_false g2, Bool.and_false])
                clear g1 g2
                go_wp2
                go_round
                case rel => exact ⟨i + 1, false, by omega, by go_num, rfl, by rw [← HF.out, HC.out]⟩
                case measure => simp [intOf]; omega
            · have g1I : ¬ (33 : Int) ≤ ((X[i]'h3).toNat : Int) := by omega
              have g1d : decide ((33 : Int) ≤ ((X[i]'h3).toNat : Int)) = false := decide_eq_false g1I
              have HC : Hid (chk (X[i]'h3) = false) := Lib.hid (by rw [chk, decide_eq_false g1, Bool.false_and])
              clear g1
              go_wp2
              go_round
              case rel => exact ⟨i + 1, false, by omega, by go_num, rfl, by rw [← HF.out, HC.out]⟩
              case measure => simp [intOf]; omega
        · obtain rfl : i = X.size := by omega
          have h3n : ¬ (X.size : Int) < (X.size : Int) := by omega
          have h3d : decide ((X.size : Int) < (X.size : Int)) = false := decide_eq_false h3n
          have HNB := HNC.out
          rw [← HB.out] at HNB
          cases b' with
          | false =>
            have Rt : Hid (∀ w', Keeps (fun _ => False) wc w' → Calls Tryd.prog 10 #[.string ({ data := #[115, 101, 116, 32] } ++ X ++ { data := #[32, 116, 114, 117, 101] })] w' fun e w'' => e = .returned (.tuple #[.agg #[.string { data := #[] }, .string { data := #[] }, .string { data := #[] }, .int .i64 0, .int .i64 0, .int .i64 0, .string { data := #[] }], .int .i64 80]) ∧ Keeps (fun _ => False) w' w'') := Lib.hid fun w' k => readC_none hXs (by decide) HWA.out (set_bad HNB (w := trueB) (by decide)) w' k
            have Rf : Hid (∀ w', Keeps (fun _ => False) wc w' → Calls Tryd.prog 10 #[.string ({ data := #[115, 101, 116, 32] } ++ X ++ { data := #[32, 102, 97, 108, 115, 101] })] w' fun e w'' => e = .returned (.tuple #[.agg #[.string { data := #[] }, .string { data := #[] }, .string { data := #[] }, .int .i64 0, .int .i64 0, .int .i64 0, .string { data := #[] }], .int .i64 80]) ∧ Keeps (fun _ => False) w' w'') := Lib.hid fun w' k => readC_none hXs (by decide) HWA.out (set_bad HNB (w := falseB) (by decide)) w' k
            have Rl : Hid (∀ w', Keeps (fun _ => False) wc w' → Calls Tryd.prog 10 #[.string ({ data := #[115, 101, 116, 32] } ++ X ++ { data := #[32, 108, 105, 115, 116] })] w' fun e w'' => e = .returned (.tuple #[.agg #[.string { data := #[] }, .string { data := #[] }, .string { data := #[] }, .int .i64 0, .int .i64 0, .int .i64 0, .string { data := #[] }], .int .i64 80]) ∧ Keeps (fun _ => False) w' w'') := Lib.hid fun w' k => readC_none hXs (by decide) HWA.out (set_list _) w' k
            have bX := beq_self X
            clear HNB HNC HB
            go_wp2_with fail
            refine (Rt.out _ (Keeps.refl _ _)).mono ?_
            rintro e w1 ⟨rfl, k1⟩
            have K1 := Lib.hid (k1.alloc (.cells #[.string { data := #[] }, .string { data := #[] }, .string { data := #[] }, .int .i64 0, .int .i64 0, .int .i64 0, .string { data := #[] }] 25))
            clear k1 Rt
            go_wp2_with fail
            refine (Rf.out _ K1.out).mono ?_
            rintro e w2 ⟨rfl, k2⟩
            have K2 := Lib.hid ((K1.out.trans k2 (fun _ _ h => h)).alloc (.cells #[.string { data := #[] }, .string { data := #[] }, .string { data := #[] }, .int .i64 0, .int .i64 0, .int .i64 0, .string { data := #[] }] 25))
            clear k2 Rf
            go_wp2_with fail
            refine (Rl.out _ K2.out).mono ?_
            rintro e w3 ⟨rfl, k3⟩
            have K3 : Hid (Keeps (fun _ => False) w w3) := Lib.hid (KA.out.trans (K2.out.trans k3 (fun _ _ h => h)) (fun _ _ h => h))
            clear k3 Rl
            go_wp2
            go_ret
            exact ⟨rfl, K3.out.alloc _⟩
          | true =>
            have Rt : Hid (∀ w', Keeps (fun _ => False) wc w' → Calls Tryd.prog 10 #[.string ({ data := #[115, 101, 116, 32] } ++ X ++ { data := #[32, 116, 114, 117, 101] })] w' fun e w'' => e = .returned (.tuple #[.agg #[.string { data := #[115, 101, 116] }, .string X, .string { data := #[] }, .int .i64 0, .int .i64 2, .int .i64 1, .string { data := #[] }], .int .i64 0]) ∧ Keeps (fun _ => False) w' w'') := Lib.hid fun w' k => readC_some hXs (by decide) HWA.out (set_true HNB) w' k
            have Rf : Hid (∀ w', Keeps (fun _ => False) wc w' → Calls Tryd.prog 10 #[.string ({ data := #[115, 101, 116, 32] } ++ X ++ { data := #[32, 102, 97, 108, 115, 101] })] w' fun e w'' => e = .returned (.tuple #[.agg #[.string { data := #[115, 101, 116] }, .string X, .string { data := #[] }, .int .i64 0, .int .i64 2, .int .i64 0, .string { data := #[] }], .int .i64 0]) ∧ Keeps (fun _ => False) w' w'') := Lib.hid fun w' k => readC_some hXs (by decide) HWA.out (set_false HNB) w' k
            have Rl : Hid (∀ w', Keeps (fun _ => False) wc w' → Calls Tryd.prog 10 #[.string ({ data := #[115, 101, 116, 32] } ++ X ++ { data := #[32, 108, 105, 115, 116] })] w' fun e w'' => e = .returned (.tuple #[.agg #[.string { data := #[] }, .string { data := #[] }, .string { data := #[] }, .int .i64 0, .int .i64 0, .int .i64 0, .string { data := #[] }], .int .i64 80]) ∧ Keeps (fun _ => False) w' w'') := Lib.hid fun w' k => readC_none hXs (by decide) HWA.out (set_list _) w' k
            have bX := beq_self X
            clear HNB HNC HB
            go_wp2_with fail
            refine (Rt.out _ (Keeps.refl _ _)).mono ?_
            rintro e w1 ⟨rfl, k1⟩
            have K1 := Lib.hid (k1.alloc (.cells #[.string { data := #[115, 101, 116] }, .string X, .string { data := #[] }, .int .i64 0, .int .i64 2, .int .i64 1, .string { data := #[] }] 25))
            clear k1 Rt
            go_wp2_with fail
            refine (Rf.out _ K1.out).mono ?_
            rintro e w2 ⟨rfl, k2⟩
            have a1 : w2.cell? ⟨w1.heap.size, 1, none⟩ = some (.string X) := (k2.cell (by simp) (fun h => h)).trans (by simp)
            have a4 : w2.cell? ⟨w1.heap.size, 4, none⟩ = some (.int .i64 2) := (k2.cell (by simp) (fun h => h)).trans (by simp)
            have a5 : w2.cell? ⟨w1.heap.size, 5, none⟩ = some (.int .i64 1) := (k2.cell (by simp) (fun h => h)).trans (by simp)
            have K2 := Lib.hid ((K1.out.trans k2 (fun _ _ h => h)).alloc (.cells #[.string { data := #[115, 101, 116] }, .string X, .string { data := #[] }, .int .i64 0, .int .i64 2, .int .i64 0, .string { data := #[] }] 25))
            clear k2 Rf
            go_wp2_with fail
            refine (Rl.out _ K2.out).mono ?_
            rintro e w3 ⟨rfl, k3⟩
            have l1 := cell_ltk a1
            have kk := ((Keeps.refl (fun _ => False) w2).alloc (.cells #[.string { data := #[115, 101, 116] }, .string X, .string { data := #[] }, .int .i64 0, .int .i64 2, .int .i64 0, .string { data := #[] }] 25)).trans k3 (fun _ _ h => h)
            have d1 := (kk.cell l1 (fun h => h)).trans a1
            have d4 := (kk.cell l1 (fun h => h)).trans a4
            have d5 := (kk.cell l1 (fun h => h)).trans a5
            have e4 : w3.cell? ⟨w2.heap.size, 4, none⟩ = some (.int .i64 2) := (k3.cell (by simp) (fun h => h)).trans (by simp)
            have e5 : w3.cell? ⟨w2.heap.size, 5, none⟩ = some (.int .i64 0) := (k3.cell (by simp) (fun h => h)).trans (by simp)
            have m1 := cell_ltk d1
            have m2 := cell_ltk e4
            clear a1 a4 a5 l1 kk
            have K3 : Hid (Keeps (fun _ => False) w w3) := Lib.hid (KA.out.trans (K2.out.trans k3 (fun _ _ h => h)) (fun _ _ h => h))
            clear k3 Rl
            go_wp2
            go_ret
            exact ⟨rfl, K3.out.alloc _⟩
  · skip
    have i30 : ¬ (30 : Int) < (s.size : Int) := by omega
    obtain ⟨X, hX⟩ : ∃ X, X = s := ⟨_, rfl⟩
    have hXs : X.size ≤ 30 := by rw [hX]; omega
    have d30 : decide ((30 : Int) < (s.size : Int)) = false := decide_eq_false i30
    go_enter Tryd.func6, Tryd.ntmps6
    go_wp2_with fail
    refine SC.out.mono ?_
    rintro e wA ⟨rfl, kA⟩
    have KA := Lib.hid kA
    have HWA := Lib.hid (HW.out.keep kA)
    clear kA SC HW
    go_upto_region 4 with fail
    rw [← hX]
    have HXE := Lib.hid hX
    clear hX i30 d30 h30
    have HNC := Lib.hid (name_chk X)
    go_cut [4] from 18 to 25 (fun s4 wx => s4 = .bool (decide (1 ≤ X.size) && decide (X.size ≤ 20)) ∧ wx = wA)
    case first =>
      by_cases h1 : 1 ≤ X.size
      · have h1I : (1 : Int) ≤ (X.size : Int) := by omega
        have h1d : decide ((1 : Int) ≤ (X.size : Int)) = true := decide_eq_true h1I
        by_cases h2 : X.size ≤ 20
        · have h2I : (X.size : Int) ≤ 20 := by omega
          have h2d : decide ((X.size : Int) ≤ 20) = true := decide_eq_true h2I
          go_wp2
          go_meet
          exact ⟨by rw [decide_eq_true h1, decide_eq_true h2]; rfl, rfl⟩
        · have h2I : ¬ (X.size : Int) ≤ 20 := by omega
          have h2d : decide ((X.size : Int) ≤ 20) = false := decide_eq_false h2I
          go_wp2
          go_meet
          exact ⟨by rw [decide_eq_true h1, decide_eq_false h2]; rfl, rfl⟩
      · have h1I : ¬ (1 : Int) ≤ (X.size : Int) := by omega
        have h1d : decide ((1 : Int) ≤ (X.size : Int)) = false := decide_eq_false h1I
        go_wp2
        go_meet
        exact ⟨by rw [decide_eq_false h1]; rfl, rfl⟩
    case rest =>
      obtain ⟨rfl, rfl⟩ := hcut
      obtain ⟨b, hb⟩ : ∃ b, b = (decide (1 ≤ X.size) && decide (X.size ≤ 20)) := ⟨_, rfl⟩
      rw [← hb] at HNC ⊢
      clear hb
      go_wp2_with fail
      go_loop [4, 5] (fun s4 s5 => ∃ (i : Nat) (b' : Bool), i ≤ X.size ∧ s5 = .int .i64 i ∧ s4 = .bool b' ∧ b' = (b && (X.data.toList.take i).all chk)) (fun _ s5 => X.size + 1 - (intOf s5).toNat)
      case atStart => exact ⟨0, b, Nat.zero_le _, rfl, rfl, by simp⟩
      case round =>
        obtain ⟨i, b', hi, rfl, rfl, hb'⟩ := hrel
        have HB := Lib.hid hb'
        clear hb'
        by_cases h3 : i < X.size
        · have h3I : (i : Int) < (X.size : Int) := by omega
          have h3d : decide ((i : Int) < (X.size : Int)) = true := decide_eq_true h3I
          have hi0 : (0 : Int) ≤ (i : Int) := by omega
          have HT := Lib.hid (take_chk X i h3)
          cases b' with
          | false =>
            have HF : Hid (false = (b && (X.data.toList.take (i + 1)).all chk)) := Lib.hid (by rw [HT.out, ← Bool.and_assoc, ← HB.out]; rfl)
            go_wp2
            go_round
            case rel => exact ⟨i + 1, false, by omega, by go_num, rfl, HF.out⟩
            case measure => simp [intOf]; omega
          | true =>
            have HF : Hid (chk (X[i]'h3) = (b && (X.data.toList.take (i + 1)).all chk)) := Lib.hid (by rw [HT.out, ← Bool.and_assoc, ← HB.out]; rfl)
            by_cases g1 : 33 ≤ (X[i]'h3).toNat
            · have g1I : (33 : Int) ≤ ((X[i]'h3).toNat : Int) := by omega
              have g1d : decide ((33 : Int) ≤ ((X[i]'h3).toNat : Int)) = true := decide_eq_true g1I
              by_cases g2 : (X[i]'h3).toNat ≤ 126
              · have g2I : ((X[i]'h3).toNat : Int) ≤ 126 := by omega
                have g2d : decide (((X[i]'h3).toNat : Int) ≤ 126) = true := decide_eq_true g2I
                have HC : Hid (chk (X[i]'h3) = true) := Lib.hid (by rw [chk, decide_eq_true g1, decide_eq_true g2]; rfl)
                clear g1 g2
                go_wp2
                go_round
                case rel => exact ⟨i + 1, true, by omega, by go_num, rfl, by rw [← HF.out, HC.out]⟩
                case measure => simp [intOf]; omega
              · have g2I : ¬ ((X[i]'h3).toNat : Int) ≤ 126 := by omega
                have g2d : decide (((X[i]'h3).toNat : Int) ≤ 126) = false := decide_eq_false g2I
                have HC : Hid (chk (X[i]'h3) = false) := Lib.hid (by rw [chk, decide_eq_false g2, Bool.and_false])
                clear g1 g2
                go_wp2
                go_round
                case rel => exact ⟨i + 1, false, by omega, by go_num, rfl, by rw [← HF.out, HC.out]⟩
                case measure => simp [intOf]; omega
            · have g1I : ¬ (33 : Int) ≤ ((X[i]'h3).toNat : Int) := by omega
              have g1d : decide ((33 : Int) ≤ ((X[i]'h3).toNat : Int)) = false := decide_eq_false g1I
              have HC : Hid (chk (X[i]'h3) = false) := Lib.hid (by rw [chk, decide_eq_false g1, Bool.false_and])
              clear g1
              go_wp2
              go_round
              case rel => exact ⟨i + 1, false, by omega, by go_num, rfl, by rw [← HF.out, HC.out]⟩
              case measure => simp [intOf]; omega
        · obtain rfl : i = X.size := by omega
          have h3n : ¬ (X.size : Int) < (X.size : Int) := by omega
          have h3d : decide ((X.size : Int) < (X.size : Int)) = false := decide_eq_false h3n
          have HNB := HNC.out
          rw [← HB.out] at HNB
          cases b' with
          | false =>
            have Rt : Hid (∀ w', Keeps (fun _ => False) wc w' → Calls Tryd.prog 10 #[.string ({ data := #[115, 101, 116, 32] } ++ X ++ { data := #[32, 116, 114, 117, 101] })] w' fun e w'' => e = .returned (.tuple #[.agg #[.string { data := #[] }, .string { data := #[] }, .string { data := #[] }, .int .i64 0, .int .i64 0, .int .i64 0, .string { data := #[] }], .int .i64 80]) ∧ Keeps (fun _ => False) w' w'') := Lib.hid fun w' k => readC_none hXs (by decide) HWA.out (set_bad HNB (w := trueB) (by decide)) w' k
            have Rf : Hid (∀ w', Keeps (fun _ => False) wc w' → Calls Tryd.prog 10 #[.string ({ data := #[115, 101, 116, 32] } ++ X ++ { data := #[32, 102, 97, 108, 115, 101] })] w' fun e w'' => e = .returned (.tuple #[.agg #[.string { data := #[] }, .string { data := #[] }, .string { data := #[] }, .int .i64 0, .int .i64 0, .int .i64 0, .string { data := #[] }], .int .i64 80]) ∧ Keeps (fun _ => False) w' w'') := Lib.hid fun w' k => readC_none hXs (by decide) HWA.out (set_bad HNB (w := falseB) (by decide)) w' k
            have Rl : Hid (∀ w', Keeps (fun _ => False) wc w' → Calls Tryd.prog 10 #[.string ({ data := #[115, 101, 116, 32] } ++ X ++ { data := #[32, 108, 105, 115, 116] })] w' fun e w'' => e = .returned (.tuple #[.agg #[.string { data := #[] }, .string { data := #[] }, .string { data := #[] }, .int .i64 0, .int .i64 0, .int .i64 0, .string { data := #[] }], .int .i64 80]) ∧ Keeps (fun _ => False) w' w'') := Lib.hid fun w' k => readC_none hXs (by decide) HWA.out (set_list _) w' k
            have bX := beq_self X
            clear HNB HNC HB
            go_wp2_with fail
            refine (Rt.out _ (Keeps.refl _ _)).mono ?_
            rintro e w1 ⟨rfl, k1⟩
            have K1 := Lib.hid (k1.alloc (.cells #[.string { data := #[] }, .string { data := #[] }, .string { data := #[] }, .int .i64 0, .int .i64 0, .int .i64 0, .string { data := #[] }] 25))
            clear k1 Rt
            go_wp2_with fail
            refine (Rf.out _ K1.out).mono ?_
            rintro e w2 ⟨rfl, k2⟩
            have K2 := Lib.hid ((K1.out.trans k2 (fun _ _ h => h)).alloc (.cells #[.string { data := #[] }, .string { data := #[] }, .string { data := #[] }, .int .i64 0, .int .i64 0, .int .i64 0, .string { data := #[] }] 25))
            clear k2 Rf
            go_wp2_with fail
            refine (Rl.out _ K2.out).mono ?_
            rintro e w3 ⟨rfl, k3⟩
            have K3 : Hid (Keeps (fun _ => False) w w3) := Lib.hid (KA.out.trans (K2.out.trans k3 (fun _ _ h => h)) (fun _ _ h => h))
            clear k3 Rl
            go_wp2
            go_ret
            exact ⟨rfl, K3.out.alloc _⟩
          | true =>
            have Rt : Hid (∀ w', Keeps (fun _ => False) wc w' → Calls Tryd.prog 10 #[.string ({ data := #[115, 101, 116, 32] } ++ X ++ { data := #[32, 116, 114, 117, 101] })] w' fun e w'' => e = .returned (.tuple #[.agg #[.string { data := #[115, 101, 116] }, .string X, .string { data := #[] }, .int .i64 0, .int .i64 2, .int .i64 1, .string { data := #[] }], .int .i64 0]) ∧ Keeps (fun _ => False) w' w'') := Lib.hid fun w' k => readC_some hXs (by decide) HWA.out (set_true HNB) w' k
            have Rf : Hid (∀ w', Keeps (fun _ => False) wc w' → Calls Tryd.prog 10 #[.string ({ data := #[115, 101, 116, 32] } ++ X ++ { data := #[32, 102, 97, 108, 115, 101] })] w' fun e w'' => e = .returned (.tuple #[.agg #[.string { data := #[115, 101, 116] }, .string X, .string { data := #[] }, .int .i64 0, .int .i64 2, .int .i64 0, .string { data := #[] }], .int .i64 0]) ∧ Keeps (fun _ => False) w' w'') := Lib.hid fun w' k => readC_some hXs (by decide) HWA.out (set_false HNB) w' k
            have Rl : Hid (∀ w', Keeps (fun _ => False) wc w' → Calls Tryd.prog 10 #[.string ({ data := #[115, 101, 116, 32] } ++ X ++ { data := #[32, 108, 105, 115, 116] })] w' fun e w'' => e = .returned (.tuple #[.agg #[.string { data := #[] }, .string { data := #[] }, .string { data := #[] }, .int .i64 0, .int .i64 0, .int .i64 0, .string { data := #[] }], .int .i64 80]) ∧ Keeps (fun _ => False) w' w'') := Lib.hid fun w' k => readC_none hXs (by decide) HWA.out (set_list _) w' k
            have bX := beq_self X
            clear HNB HNC HB
            go_wp2_with fail
            refine (Rt.out _ (Keeps.refl _ _)).mono ?_
            rintro e w1 ⟨rfl, k1⟩
            have K1 := Lib.hid (k1.alloc (.cells #[.string { data := #[115, 101, 116] }, .string X, .string { data := #[] }, .int .i64 0, .int .i64 2, .int .i64 1, .string { data := #[] }] 25))
            clear k1 Rt
            go_wp2_with fail
            refine (Rf.out _ K1.out).mono ?_
            rintro e w2 ⟨rfl, k2⟩
            have a1 : w2.cell? ⟨w1.heap.size, 1, none⟩ = some (.string X) := (k2.cell (by simp) (fun h => h)).trans (by simp)
            have a4 : w2.cell? ⟨w1.heap.size, 4, none⟩ = some (.int .i64 2) := (k2.cell (by simp) (fun h => h)).trans (by simp)
            have a5 : w2.cell? ⟨w1.heap.size, 5, none⟩ = some (.int .i64 1) := (k2.cell (by simp) (fun h => h)).trans (by simp)
            have K2 := Lib.hid ((K1.out.trans k2 (fun _ _ h => h)).alloc (.cells #[.string { data := #[115, 101, 116] }, .string X, .string { data := #[] }, .int .i64 0, .int .i64 2, .int .i64 0, .string { data := #[] }] 25))
            clear k2 Rf
            go_wp2_with fail
            refine (Rl.out _ K2.out).mono ?_
            rintro e w3 ⟨rfl, k3⟩
            have l1 := cell_ltk a1
            have kk := ((Keeps.refl (fun _ => False) w2).alloc (.cells #[.string { data := #[115, 101, 116] }, .string X, .string { data := #[] }, .int .i64 0, .int .i64 2, .int .i64 0, .string { data := #[] }] 25)).trans k3 (fun _ _ h => h)
            have d1 := (kk.cell l1 (fun h => h)).trans a1
            have d4 := (kk.cell l1 (fun h => h)).trans a4
            have d5 := (kk.cell l1 (fun h => h)).trans a5
            have e4 : w3.cell? ⟨w2.heap.size, 4, none⟩ = some (.int .i64 2) := (k3.cell (by simp) (fun h => h)).trans (by simp)
            have e5 : w3.cell? ⟨w2.heap.size, 5, none⟩ = some (.int .i64 0) := (k3.cell (by simp) (fun h => h)).trans (by simp)
            have m1 := cell_ltk d1
            have m2 := cell_ltk e4
            clear a1 a4 a5 l1 kk
            have K3 : Hid (Keeps (fun _ => False) w w3) := Lib.hid (KA.out.trans (K2.out.trans k3 (fun _ _ h => h)) (fun _ _ h => h))
            clear k3 Rl
            go_wp2
            go_ret
            exact ⟨rfl, K3.out.alloc _⟩
end Go.Proofs.YtoombjbpblighabDoor
