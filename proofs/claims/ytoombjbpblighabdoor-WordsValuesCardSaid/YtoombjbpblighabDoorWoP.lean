/-
  Layer 22: the contract of heard. Written by an AI agent.
-/
import Derived.Test.YtoombjbpblighabDoorWoO
namespace Go.Proofs.YtoombjbpblighabDoor
open Go Go.RowKit Go.Shelf
set_option linter.unusedVariables false
set_option linter.unusedSimpArgs false

theorem cell_other (w : World) {p q : Nat} (i j : Nat) (v : Value) (h : i ≠ j ∨ p ≠ q) : (w.setCell ⟨p, i, none⟩ v).cell? ⟨q, j, none⟩ = w.cell? ⟨q, j, none⟩ := World.cell?_setCell_other w _ _ _ (by rcases h with h | h <;> simp <;> omega)
/-- A value's three cells, new, and kept. -/
theorem three_keep {w w1 : World} {a b : Int} {s : ByteArray} (k : Keeps (fun _ => False) (w.alloc (.cells #[.int .i64 a, .int .i64 b, .string s] 23)) w1) : w1.cell? ⟨w.heap.size, 0, none⟩ = some (.int .i64 a) ∧ w1.cell? ⟨w.heap.size, 1, none⟩ = some (.int .i64 b) ∧ w1.cell? ⟨w.heap.size, 2, none⟩ = some (.string s) ∧ w1.frozen? ⟨w.heap.size, 0, none⟩ = false ∧ w1.frozen? ⟨w.heap.size, 1, none⟩ = false ∧ w1.frozen? ⟨w.heap.size, 2, none⟩ = false ∧ w.heap.size < w1.heap.size := by
  have hz : w.heap.size < (w.alloc (.cells #[.int .i64 a, .int .i64 b, .string s] 23)).heap.size := by simp
  exact ⟨(k.cell hz (fun h => h)).trans (by simp), (k.cell hz (fun h => h)).trans (by simp), (k.cell hz (fun h => h)).trans (by simp), (k.frozen hz (fun h => h)).trans (by simp), (k.frozen hz (fun h => h)).trans (by simp), (k.frozen hz (fun h => h)).trans (by simp), Nat.lt_of_lt_of_le hz k.size⟩
theorem Keeps.setNew3 {w w1 : World} (k : Keeps (fun _ => False) w w1) (a b c : Value) : Keeps (fun _ => False) w (((w1.setCell ⟨w.heap.size, 0, none⟩ a).setCell ⟨w.heap.size, 1, none⟩ b).setCell ⟨w.heap.size, 2, none⟩ c) :=
  ((k.setCell (p := ⟨w.heap.size, 0, none⟩) (fun h => absurd h (Nat.lt_irrefl _)) a).setCell (p := ⟨w.heap.size, 1, none⟩) (fun h => absurd h (Nat.lt_irrefl _)) b).setCell (p := ⟨w.heap.size, 2, none⟩) (fun h => absurd h (Nat.lt_irrefl _)) c

theorem getD_at (s : ByteArray) (i : Nat) (h : i < s.size) : s.data.toList.getD i 0 = 34 ↔ (s[i]'h).toNat = 34 := by
  have hg : s.data.toList.getD i 0 = s[i]'h := by rw [List.getD_eq_getElem?_getD, List.getElem?_eq_getElem (by rw [len_size]; exact h)]; rfl
  rw [hg]
  constructor
  · intro e
    rw [e]
    rfl
  · intro e
    exact UInt8.toNat_inj.1 (by rw [e]; rfl)
theorem ofL_cut (s : ByteArray) (h : 1 ≤ s.size) : ofL ((s.data.toList.drop 1).take (s.size - 2)) = s.extract 1 (s.size - 1) := by
  apply ByteArray.ext
  apply Array.ext'
  rw [ByteArray.data_extract, Array.toList_extract]
  show (s.data.toList.drop 1).take (s.size - 2) = (s.data.toList.drop 1).take (s.size - 1 - 1)
  rw [Nat.sub_sub]

set_option maxRecDepth 100000 in
set_option maxHeartbeats 4000000 in
theorem heard_any (s : ByteArray) (hs : s.size ≤ 100000) (w : World) (hw : WordW w) : Calls Tryd.prog 26 #[.string s] w fun e w' => e = .returned (valV (heardN s.data.toList)) ∧ Keeps (fun _ => False) w w' := by
  have HE : Hid (heardN s.data.toList = if s.data.toList = trueB then ⟨2, 1, []⟩ else if s.data.toList = falseB then ⟨2, 0, []⟩
    else if 2 ≤ s.data.toList.length ∧ s.data.toList.getD 0 0 = 34 ∧ s.data.toList.getD (s.data.toList.length - 1) 0 = 34 then ⟨3, 0, (s.data.toList.drop 1).take (s.data.toList.length - 2)⟩ else ⟨1, numN s.data.toList, []⟩) := Lib.hid rfl
  rw [len_size] at HE
  have q1 := word_beq s [116, 114, 117, 101]
  have q2 := word_beq s [102, 97, 108, 115, 101]
  have hw0 := Lib.hid hw
  clear hw
  by_cases h1 : s.data.toList = trueB
  · have e1 : decide (s.data.toList = [116, 114, 117, 101]) = true := decide_eq_true h1
    have HR : Hid (valV (heardN s.data.toList) = .agg #[.int .i64 2, .int .i64 1, .string { data := #[] }]) := Lib.hid (by rw [HE.out, if_pos h1]; rfl)
    have BC : Hid (∀ w, Calls Tryd.prog 34 #[.bool true] w fun e w' => e = .returned (.agg #[.int .i64 2, .int .i64 1, .string { data := #[] }]) ∧ Keeps (fun _ => False) w w') := Lib.hid fun w => bool_any true w
    rw [e1] at q1
    rw [HR.out]
    clear h1 e1 q2
    go_enter Tryd.func26, Tryd.ntmps26
    go_wp2_with fail
    refine (BC.out _).mono ?_
    rintro e w1 ⟨rfl, k1⟩
    obtain ⟨z0, z1, z2, g0, g1, g2, hp⟩ := three_keep k1
    have K1 : Hid (Keeps (fun _ => False) w w1) := Lib.hid (((Keeps.refl (fun _ => False) w).alloc _).trans k1 (fun _ _ h => h))
    clear k1
    go_wp2
    refine bodyPost_ret (v := .agg #[.int .i64 2, .int .i64 1, .string { data := #[] }]) ?_ rfl ?_
    · rw [results_cell1 rfl]
      go_simp
    · exact ⟨rfl, K1.out.setNew3 _ _ _⟩
  have e1 : decide (s.data.toList = [116, 114, 117, 101]) = false := decide_eq_false h1
  rw [e1] at q1
  by_cases h2 : s.data.toList = falseB
  · have e2 : decide (s.data.toList = [102, 97, 108, 115, 101]) = true := decide_eq_true h2
    have HR : Hid (valV (heardN s.data.toList) = .agg #[.int .i64 2, .int .i64 0, .string { data := #[] }]) := Lib.hid (by rw [HE.out, if_neg h1, if_pos h2]; rfl)
    have BC : Hid (∀ w, Calls Tryd.prog 34 #[.bool false] w fun e w' => e = .returned (.agg #[.int .i64 2, .int .i64 0, .string { data := #[] }]) ∧ Keeps (fun _ => False) w w') := Lib.hid fun w => bool_any false w
    rw [e2] at q2
    rw [HR.out]
    clear h1 e1 h2 e2
    go_enter Tryd.func26, Tryd.ntmps26
    go_wp2_with fail
    refine (BC.out _).mono ?_
    rintro e w1 ⟨rfl, k1⟩
    obtain ⟨z0, z1, z2, g0, g1, g2, hp⟩ := three_keep k1
    have K1 : Hid (Keeps (fun _ => False) w w1) := Lib.hid (((Keeps.refl (fun _ => False) w).alloc _).trans k1 (fun _ _ h => h))
    clear k1
    go_wp2
    refine bodyPost_ret (v := .agg #[.int .i64 2, .int .i64 0, .string { data := #[] }]) ?_ rfl ?_
    · rw [results_cell1 rfl]
      go_simp
    · exact ⟨rfl, K1.out.setNew3 _ _ _⟩
  have e2 : decide (s.data.toList = [102, 97, 108, 115, 101]) = false := decide_eq_false h2
  rw [e2] at q2
  clear e1 e2
  have TC : Hid (∀ t w, Calls Tryd.prog 35 #[.string t] w fun e w' => e = .returned (.agg #[.int .i64 3, .int .i64 0, .string t]) ∧ Keeps (fun _ => False) w w') := Lib.hid text_any
  have NC : Hid (∀ w, WordW w → Calls Tryd.prog 21 #[.string s] w fun e w' => e = .returned (.int .i64 (numN s.data.toList)) ∧ Keeps (fun _ => False) w w') := Lib.hid fun w h => num_any s hs w h
  have IC : Hid (∀ n w, Calls Tryd.prog 36 #[.int .i64 n] w fun e w' => e = .returned (.agg #[.int .i64 1, .int .i64 n, .string { data := #[] }]) ∧ Keeps (fun _ => False) w w') := Lib.hid int_any
  have HW := hw0
  have HE2 : Hid (heardN s.data.toList = if 2 ≤ s.size ∧ s.data.toList.getD 0 0 = 34 ∧ s.data.toList.getD (s.size - 1) 0 = 34 then ⟨3, 0, (s.data.toList.drop 1).take (s.size - 2)⟩ else ⟨1, numN s.data.toList, []⟩) := Lib.hid (by rw [HE.out, if_neg h1, if_neg h2])
  clear HE h1 h2
  by_cases h3 : 2 ≤ s.size
  · have hg0 := Lib.hid (getD_at s 0 (by omega))
    have hg1 := Lib.hid (getD_at s (s.size - 1) (by omega))
    have i3 : (2 : Int) ≤ (s.size : Int) := by omega
    have d3 : decide ((2 : Int) ≤ (s.size : Int)) = true := decide_eq_true i3
    go_enter Tryd.func26, Tryd.ntmps26
    go_wp2_with fail
    go_ways
    · have HR : Hid (valV (heardN s.data.toList) = .agg #[.int .i64 3, .int .i64 0, .string (s.extract 1 (s.size - 1))]) := Lib.hid (by
        have x1 : ((s[0]'(by omega)).toNat : Int) = 34 := by assumption
        have x3 : (((s[s.size - 1]'(by omega)).toNat : Int) == 34) = true := by assumption
        have y1 := hg0.out.2 (by omega)
        have y3 := hg1.out.2 (by have := eq_of_beq x3; omega)
        rw [HE2.out, if_pos ⟨h3, y1, y3⟩, valV, ofL_cut s (by omega)])
      refine (TC.out _ _).mono ?_
      rintro e w1 ⟨rfl, k1⟩
      obtain ⟨z0, z1, z2, g0, g1, g2, hp⟩ := three_keep k1
      have K1 : Hid (Keeps (fun _ => False) w w1) := Lib.hid (((Keeps.refl (fun _ => False) w).alloc _).trans k1 (fun _ _ h => h))
      clear k1
      go_wp2
      rw [HR.out]
      refine bodyPost_ret (v := .agg #[.int .i64 3, .int .i64 0, .string (s.extract 1 (s.size - 1))]) ?_ rfl ?_
      · rw [results_cell1 rfl]
        go_simp
      · exact ⟨rfl, K1.out.setNew3 _ _ _⟩
    · have HR : Hid (valV (heardN s.data.toList) = .agg #[.int .i64 1, .int .i64 (numN s.data.toList), .string { data := #[] }]) := Lib.hid (by
        rw [HE2.out, if_neg (fun h => ?_), valV]
        · rfl
        · have := hg1.out.1 h.2.2
          have x3 : (((s[s.size - 1]'(by omega)).toNat : Int) == 34) = false := by assumption
          have x4 := beq_eq_false_iff_ne.1 x3
          omega)
      refine (NC.out _ (HW.out.keep (((Keeps.refl (fun _ => False) w).alloc _)))).mono ?_
      rintro e w1 ⟨rfl, k1⟩
      have KA := Lib.hid k1
      clear k1
      go_wp2_with fail
      refine (IC.out _ _).mono ?_
      rintro e w2 ⟨rfl, k2⟩
      have k3 := KA.out.trans k2 (fun _ _ h => h)
      obtain ⟨z0, z1, z2, g0, g1, g2, hp⟩ := three_keep k3
      have K1 : Hid (Keeps (fun _ => False) w w2) := Lib.hid (((Keeps.refl (fun _ => False) w).alloc _).trans k3 (fun _ _ h => h))
      clear k2 k3
      go_wp2
      rw [HR.out]
      refine bodyPost_ret (v := .agg #[.int .i64 1, .int .i64 (numN s.data.toList), .string { data := #[] }]) ?_ rfl ?_
      · rw [results_cell1 rfl]
        go_simp
      · exact ⟨rfl, K1.out.setNew3 _ _ _⟩
    · have HR : Hid (valV (heardN s.data.toList) = .agg #[.int .i64 1, .int .i64 (numN s.data.toList), .string { data := #[] }]) := Lib.hid (by
        rw [HE2.out, if_neg (fun h => ?_), valV]
        · rfl
        · have := hg0.out.1 h.2.1
          have x1 : ¬ ((s[0]'(by omega)).toNat : Int) = 34 := by assumption
          omega)
      refine (NC.out _ (HW.out.keep (((Keeps.refl (fun _ => False) w).alloc _)))).mono ?_
      rintro e w1 ⟨rfl, k1⟩
      have KA := Lib.hid k1
      clear k1
      go_wp2_with fail
      refine (IC.out _ _).mono ?_
      rintro e w2 ⟨rfl, k2⟩
      have k3 := KA.out.trans k2 (fun _ _ h => h)
      obtain ⟨z0, z1, z2, g0, g1, g2, hp⟩ := three_keep k3
      have K1 : Hid (Keeps (fun _ => False) w w2) := Lib.hid (((Keeps.refl (fun _ => False) w).alloc _).trans k3 (fun _ _ h => h))
      clear k2 k3
      go_wp2
      rw [HR.out]
      refine bodyPost_ret (v := .agg #[.int .i64 1, .int .i64 (numN s.data.toList), .string { data := #[] }]) ?_ rfl ?_
      · rw [results_cell1 rfl]
        go_simp
      · exact ⟨rfl, K1.out.setNew3 _ _ _⟩
  · have d3 : decide ((2 : Int) ≤ (s.size : Int)) = false := decide_eq_false (by omega)
    have HR : Hid (valV (heardN s.data.toList) = .agg #[.int .i64 1, .int .i64 (numN s.data.toList), .string { data := #[] }]) := Lib.hid (by
      rw [HE2.out, if_neg (fun h => h3 h.1), valV]
      rfl)
    clear HE2
    have h3' : ¬ (2 : Int) ≤ (s.size : Int) := by omega
    go_enter Tryd.func26, Tryd.ntmps26
    go_wp2_with fail
    refine (NC.out _ (HW.out.keep (((Keeps.refl (fun _ => False) w).alloc _)))).mono ?_
    rintro e w1 ⟨rfl, k1⟩
    have KA := Lib.hid k1
    clear k1
    go_wp2_with fail
    refine (IC.out _ _).mono ?_
    rintro e w2 ⟨rfl, k2⟩
    have k3 := KA.out.trans k2 (fun _ _ h => h)
    obtain ⟨z0, z1, z2, g0, g1, g2, hp⟩ := three_keep k3
    have K1 : Hid (Keeps (fun _ => False) w w2) := Lib.hid (((Keeps.refl (fun _ => False) w).alloc _).trans k3 (fun _ _ h => h))
    clear k2 k3
    go_wp2
    rw [HR.out]
    refine bodyPost_ret (v := .agg #[.int .i64 1, .int .i64 (numN s.data.toList), .string { data := #[] }]) ?_ rfl ?_
    · rw [results_cell1 rfl]
      go_simp
    · exact ⟨rfl, K1.out.setNew3 _ _ _⟩
end Go.Proofs.YtoombjbpblighabDoor
