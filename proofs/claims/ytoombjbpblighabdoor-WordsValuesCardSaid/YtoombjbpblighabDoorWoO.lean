/-
  Layer 22: the contracts of name, May, Word, Quoted, speakable, heard. Written by an AI agent.
-/
import Derived.Test.YtoombjbpblighabDoorWoN
namespace Go.Proofs.YtoombjbpblighabDoor
open Go Go.RowKit Go.Shelf
set_option linter.unusedVariables false
set_option linter.unusedSimpArgs false

set_option maxHeartbeats 1000000 in
theorem name_any (s : ByteArray) (hs : s.size ≤ 100000) (w : World) : Calls Tryd.prog 14 #[.string s] w fun e w' => e = .returned (.bool (nameN s.data.toList)) ∧ w = w' := by
  have OC := Lib.hid (fun w => only_any s hs w)
  have HE : Hid (nameN s.data.toList = (decide (1 ≤ s.data.toList.length) && (decide (s.data.toList.length ≤ 20) && onlyN s.data.toList))) := Lib.hid rfl
  rw [len_size] at HE
  obtain ⟨q, hq⟩ : ∃ q, q = onlyN s.data.toList := ⟨_, rfl⟩
  obtain ⟨R, hR⟩ : ∃ R, R = nameN s.data.toList := ⟨_, rfl⟩
  rw [← hq, ← hR] at HE
  rw [← hq] at OC
  rw [← hR]
  clear hq hR
  by_cases h1 : 1 ≤ s.size
  · have d1 : decide (1 ≤ s.size) = true := decide_eq_true h1
    have i1 : (1 : Int) ≤ (s.size : Int) := by omega
    have e1 : decide ((1 : Int) ≤ (s.size : Int)) = true := decide_eq_true i1
    by_cases h2 : s.size ≤ 20
    · have d2 : decide (s.size ≤ 20) = true := decide_eq_true h2
      have i2 : (s.size : Int) ≤ 20 := by omega
      have e2 : decide ((s.size : Int) ≤ 20) = true := decide_eq_true i2
      have HR : Hid (R = q) := Lib.hid (by rw [HE.out, d1, d2]; rfl)
      clear d1 d2 h1 h2
      go_enter Tryd.func14, Tryd.ntmps14
      go_wp2_with (go_at_call 28; refine (OC.out _).mono ?_; rintro e w' ⟨rfl, rfl⟩)
      go_ret
      rw [HR.out]
      exact ⟨rfl, rfl⟩
    · have d2 : decide (s.size ≤ 20) = false := decide_eq_false h2
      have i2 : ¬ (s.size : Int) ≤ 20 := by omega
      have e2 : decide ((s.size : Int) ≤ 20) = false := decide_eq_false i2
      have HR : Hid (R = false) := Lib.hid (by rw [HE.out, d1, d2]; rfl)
      clear d1 d2 h1 h2
      go_enter Tryd.func14, Tryd.ntmps14
      go_wp2
      go_ret
      rw [HR.out]
      exact ⟨rfl, rfl⟩
  · have d1 : decide (1 ≤ s.size) = false := decide_eq_false h1
    have i1 : ¬ (1 : Int) ≤ (s.size : Int) := by omega
    have e1 : decide ((1 : Int) ≤ (s.size : Int)) = false := decide_eq_false i1
    have HR : Hid (R = false) := Lib.hid (by rw [HE.out, d1]; rfl)
    clear d1 h1
    go_enter Tryd.func14, Tryd.ntmps14
    go_wp2
    go_ret
    rw [HR.out]
    exact ⟨rfl, rfl⟩
set_option maxRecDepth 100000 in
set_option maxHeartbeats 4000000 in
theorem may_any (ty n : Int) (s : ByteArray) (w : World) : Calls Tryd.prog 32 #[.agg #[.int .i64 ty, .int .i64 n, .string s]] w fun e w' => e = .returned (.bool (mayV ⟨ty, n, s.data.toList⟩)) ∧ Keeps (fun _ => False) w w' := by
  have hem := empty_iff s
  obtain ⟨z, hz⟩ : ∃ z : Bool, z = decide (s.data.toList = []) := ⟨_, rfl⟩
  rw [← hz] at hem
  have HE : Hid (mayV ⟨ty, n, s.data.toList⟩ = if ty = 3 then decide (n = 0) && decide (s.size ≤ 40) else if ty = 2 then decide (n ≤ 1) && (decide (0 ≤ n) && z) else if ty = 4 then decide (0 ≤ n) && z else if ty = 1 then z else false) := Lib.hid (by rw [hz, ← len_size]; rfl)
  obtain ⟨R, hR⟩ : ∃ R, R = mayV ⟨ty, n, s.data.toList⟩ := ⟨_, rfl⟩
  rw [← hR] at HE ⊢
  clear hR hz
  by_cases h3 : ty = 3
  · subst h3
    by_cases hn : n = 0
    · subst hn
      by_cases hs : s.size ≤ 40
      · have i1 : (s.size : Int) ≤ 40 := by omega
        have e1 : decide ((s.size : Int) ≤ 40) = true := decide_eq_true i1
        have HR : Hid (R = true) := Lib.hid (by rw [HE.out, if_pos rfl, decide_eq_true hs]; rfl)
        clear hs
        go_enter Tryd.func32, Tryd.ntmps32
        go_wp2
        go_ret
        exact ⟨by rw [HR.out]; rfl, (Keeps.refl _ _).alloc _⟩
      · have i1 : ¬ (s.size : Int) ≤ 40 := by omega
        have e1 : decide ((s.size : Int) ≤ 40) = false := decide_eq_false i1
        have HR : Hid (R = false) := Lib.hid (by rw [HE.out, if_pos rfl, decide_eq_false hs]; rfl)
        clear hs
        go_enter Tryd.func32, Tryd.ntmps32
        go_wp2
        go_ret
        exact ⟨by rw [HR.out]; rfl, (Keeps.refl _ _).alloc _⟩
    · have e1 : decide (n = 0) = false := decide_eq_false hn
      have f1 : (n == 0) = false := by simpa using hn
      have HR : Hid (R = false) := Lib.hid (by rw [HE.out, if_pos rfl, e1]; rfl)
      go_enter Tryd.func32, Tryd.ntmps32
      go_wp2
      go_ret
      exact ⟨by rw [HR.out]; rfl, (Keeps.refl _ _).alloc _⟩
  have b3 : (ty == 3) = false := by simpa using h3
  have c3 : decide (ty = 3) = false := decide_eq_false h3
  by_cases h2 : ty = 2
  · subst h2
    by_cases hn : n ≤ 1
    · have g1 : ¬ (1 : Int) < n := by omega
      have g2 : decide ((1 : Int) < n) = false := decide_eq_false g1
      by_cases hp : 0 ≤ n
      · have g3 : ¬ n < 0 := by omega
        have g4 : decide (n < 0) = false := decide_eq_false g3
        have HR : Hid (R = z) := Lib.hid (by rw [HE.out, if_neg (by omega), if_pos rfl, decide_eq_true hn, decide_eq_true hp]; rfl)
        clear h3 b3 c3
        go_enter Tryd.func32, Tryd.ntmps32
        go_wp2
        go_ret
        exact ⟨by rw [HR.out]; rfl, (Keeps.refl _ _).alloc _⟩
      · have g3 : n < 0 := by omega
        have g4 : decide (n < 0) = true := decide_eq_true g3
        have HR : Hid (R = false) := Lib.hid (by rw [HE.out, if_neg (by omega), if_pos rfl, decide_eq_true hn, decide_eq_false hp]; rfl)
        clear h3 b3 c3
        go_enter Tryd.func32, Tryd.ntmps32
        go_wp2
        go_ret
        exact ⟨by rw [HR.out]; rfl, (Keeps.refl _ _).alloc _⟩
    · have g1 : (1 : Int) < n := by omega
      have g2 : decide ((1 : Int) < n) = true := decide_eq_true g1
      have HR : Hid (R = false) := Lib.hid (by rw [HE.out, if_neg (by omega), if_pos rfl, decide_eq_false hn]; rfl)
      clear h3 b3 c3
      go_enter Tryd.func32, Tryd.ntmps32
      go_wp2
      go_ret
      exact ⟨by rw [HR.out]; rfl, (Keeps.refl _ _).alloc _⟩
  have b2 : (ty == 2) = false := by simpa using h2
  have c2 : decide (ty = 2) = false := decide_eq_false h2
  by_cases h4 : ty = 4
  · subst h4
    by_cases hp : 0 ≤ n
    · have g3 : ¬ n < 0 := by omega
      have g4 : decide (n < 0) = false := decide_eq_false g3
      have HR : Hid (R = z) := Lib.hid (by rw [HE.out, if_neg (by omega), if_neg (by omega), if_pos rfl, decide_eq_true hp]; rfl)
      clear h3 b3 c3 h2 b2 c2
      go_enter Tryd.func32, Tryd.ntmps32
      go_wp2
      go_ret
      exact ⟨by rw [HR.out]; rfl, (Keeps.refl _ _).alloc _⟩
    · have g3 : n < 0 := by omega
      have g4 : decide (n < 0) = true := decide_eq_true g3
      have HR : Hid (R = false) := Lib.hid (by rw [HE.out, if_neg (by omega), if_neg (by omega), if_pos rfl, decide_eq_false hp]; rfl)
      clear h3 b3 c3 h2 b2 c2
      go_enter Tryd.func32, Tryd.ntmps32
      go_wp2
      go_ret
      exact ⟨by rw [HR.out]; rfl, (Keeps.refl _ _).alloc _⟩
  have b4 : (ty == 4) = false := by simpa using h4
  have c4 : decide (ty = 4) = false := decide_eq_false h4
  by_cases h1 : ty = 1
  · subst h1
    have HR : Hid (R = z) := Lib.hid (by rw [HE.out, if_neg (by omega), if_neg (by omega), if_neg (by omega), if_pos rfl])
    clear h3 b3 c3 h2 b2 c2 h4 b4 c4
    go_enter Tryd.func32, Tryd.ntmps32
    go_wp2
    go_ret
    exact ⟨by rw [HR.out]; rfl, (Keeps.refl _ _).alloc _⟩
  have b1 : (ty == 1) = false := by simpa using h1
  have c1 : decide (ty = 1) = false := decide_eq_false h1
  have HR : Hid (R = false) := Lib.hid (by rw [HE.out, if_neg h3, if_neg h2, if_neg h4, if_neg h1])
  clear h1 h2 h3 h4
  go_enter Tryd.func32, Tryd.ntmps32
  go_wp2
  go_ret
  exact ⟨by rw [HR.out]; rfl, (Keeps.refl _ _).alloc _⟩
theorem wordN_def (ty n : Int) (s : ByteArray) : ofL (wordN ⟨ty, n, s.data.toList⟩) = if ty = 1 then ofL (Lib.itoa n) else if ty = 2 then (if n = 1 then { data := #[116, 114, 117, 101] } else { data := #[102, 97, 108, 115, 101] }) else if ty = 3 then s else if ty = 4 then { data := #[108, 105, 115, 116] } else { data := #[] } := by
  unfold wordN
  repeat' split
  all_goals first | rfl | (exact bytes_ext (by rw [ofL_list]))
set_option maxRecDepth 100000 in
set_option maxHeartbeats 4000000 in
theorem wordv_any (ty n : Int) (s : ByteArray) (hn : Rng n) (w : World) (hw : WordW w) : Calls Tryd.prog 31 #[.agg #[.int .i64 ty, .int .i64 n, .string s]] w fun e w' => e = .returned (.string (ofL (wordN ⟨ty, n, s.data.toList⟩))) ∧ Keeps (fun _ => False) w w' := by
  have HE := Lib.hid (wordN_def ty n s)
  have IC : Hid (∀ o, Calls Tryd.prog 19 #[.int .i64 n] (w.alloc o) fun e w' => e = .returned (.string (ofL (Lib.itoa n))) ∧ Keeps (fun _ => False) w w') := Lib.hid fun o => (itoa_any n hn _ (hw.keep ((Keeps.refl _ _).alloc o))).mono fun e w' h => ⟨h.1, ((Keeps.refl _ _).alloc o).trans h.2 (fun _ _ h => h)⟩
  obtain ⟨R, hR⟩ : ∃ R, R = ofL (wordN ⟨ty, n, s.data.toList⟩) := ⟨_, rfl⟩
  obtain ⟨J, hJ⟩ : ∃ J, J = ofL (Lib.itoa n) := ⟨_, rfl⟩
  rw [← hR, ← hJ] at HE
  rw [← hJ] at IC
  rw [← hR]
  clear hR hJ hw hn
  by_cases h1 : ty = 1
  · subst h1
    have HR : Hid (R = J) := Lib.hid (by rw [HE.out, if_pos rfl])
    go_enter Tryd.func31, Tryd.ntmps31
    go_wp2_with fail
    refine (IC.out _).mono ?_
    rintro e w1 ⟨rfl, k1⟩
    have K1 := Lib.hid k1
    clear k1
    go_wp2
    go_ret
    exact ⟨by rw [HR.out]; rfl, K1.out⟩
  have b1 : (ty == 1) = false := by simpa using h1
  have c1 : decide (ty = 1) = false := decide_eq_false h1
  by_cases h2 : ty = 2
  · subst h2
    by_cases hn : n = 1
    · subst hn
      have HR : Hid (R = { data := #[116, 114, 117, 101] }) := Lib.hid (by rw [HE.out, if_neg (by omega), if_pos rfl, if_pos rfl])
      clear h1 b1 c1
      go_enter Tryd.func31, Tryd.ntmps31
      go_wp2
      go_ret
      exact ⟨by rw [HR.out]; rfl, (Keeps.refl _ _).alloc _⟩
    · have e1 : decide (n = 1) = false := decide_eq_false hn
      have f1 : (n == 1) = false := by simpa using hn
      have HR : Hid (R = { data := #[102, 97, 108, 115, 101] }) := Lib.hid (by rw [HE.out, if_neg (by omega), if_pos rfl, if_neg hn])
      clear h1 b1 c1 hn
      go_enter Tryd.func31, Tryd.ntmps31
      go_wp2
      go_ret
      exact ⟨by rw [HR.out]; rfl, (Keeps.refl _ _).alloc _⟩
  have b2 : (ty == 2) = false := by simpa using h2
  have c2 : decide (ty = 2) = false := decide_eq_false h2
  by_cases h3 : ty = 3
  · subst h3
    have HR : Hid (R = s) := Lib.hid (by rw [HE.out, if_neg (by omega), if_neg (by omega), if_pos rfl])
    clear h1 b1 c1 h2 b2 c2
    go_enter Tryd.func31, Tryd.ntmps31
    go_wp2
    go_ret
    exact ⟨by rw [HR.out]; rfl, (Keeps.refl _ _).alloc _⟩
  have b3 : (ty == 3) = false := by simpa using h3
  have c3 : decide (ty = 3) = false := decide_eq_false h3
  by_cases h4 : ty = 4
  · subst h4
    have HR : Hid (R = { data := #[108, 105, 115, 116] }) := Lib.hid (by rw [HE.out, if_neg (by omega), if_neg (by omega), if_neg (by omega), if_pos rfl])
    clear h1 b1 c1 h2 b2 c2 h3 b3 c3
    go_enter Tryd.func31, Tryd.ntmps31
    go_wp2
    go_ret
    exact ⟨by rw [HR.out]; rfl, (Keeps.refl _ _).alloc _⟩
  have b4 : (ty == 4) = false := by simpa using h4
  have c4 : decide (ty = 4) = false := decide_eq_false h4
  have HR : Hid (R = { data := #[] }) := Lib.hid (by rw [HE.out, if_neg h1, if_neg h2, if_neg h3, if_neg h4])
  clear h1 h2 h3 h4
  go_enter Tryd.func31, Tryd.ntmps31
  go_wp2
  go_ret
  exact ⟨by rw [HR.out]; rfl, (Keeps.refl _ _).alloc _⟩
set_option maxRecDepth 100000 in
set_option maxHeartbeats 4000000 in
theorem quoted_any (ty n : Int) (s : ByteArray) (hs : s.size ≤ 100000) (hn : Rng n) (w : World) (hw : WordW w) : Calls Tryd.prog 23 #[.agg #[.int .i64 ty, .int .i64 n, .string s]] w fun e w' => e = .returned (.string (ofL (quotedN ⟨ty, n, s.data.toList⟩))) ∧ Keeps (fun _ => False) w w' := by
  have HE : Hid (ofL (quotedN ⟨ty, n, s.data.toList⟩) = if ty = 3 then { data := #[34] } ++ s ++ { data := #[34] } else ofL (wordN ⟨ty, n, s.data.toList⟩)) := Lib.hid (by
    unfold quotedN
    split
    · exact bytes_ext (by rw [ofL_list, app_list, app_list]; simp)
    · rfl)
  have WC : Hid (∀ o, Calls Tryd.prog 31 #[.agg #[.int .i64 ty, .int .i64 n, .string s]] (w.alloc o) fun e w' => e = .returned (.string (ofL (wordN ⟨ty, n, s.data.toList⟩))) ∧ Keeps (fun _ => False) w w') := Lib.hid fun o => (wordv_any ty n s hn _ (hw.keep ((Keeps.refl _ _).alloc o))).mono fun e w' h => ⟨h.1, ((Keeps.refl _ _).alloc o).trans h.2 (fun _ _ h => h)⟩
  obtain ⟨R, hR⟩ : ∃ R, R = ofL (quotedN ⟨ty, n, s.data.toList⟩) := ⟨_, rfl⟩
  obtain ⟨J, hJ⟩ : ∃ J, J = ofL (wordN ⟨ty, n, s.data.toList⟩) := ⟨_, rfl⟩
  rw [← hR, ← hJ] at HE
  rw [← hJ] at WC
  rw [← hR]
  clear hR hJ hw hn
  by_cases h3 : ty = 3
  · subst h3
    have HR : Hid (R = { data := #[34] } ++ s ++ { data := #[34] }) := Lib.hid (by rw [HE.out, if_pos rfl])
    go_enter Tryd.func23, Tryd.ntmps23
    go_wp2
    go_ret
    exact ⟨by rw [HR.out]; rfl, (Keeps.refl _ _).alloc _⟩
  have b3 : (ty == 3) = false := by simpa using h3
  have c3 : decide (ty = 3) = false := decide_eq_false h3
  have HR : Hid (R = J) := Lib.hid (by rw [HE.out, if_neg h3])
  go_enter Tryd.func23, Tryd.ntmps23
  go_wp2_with fail
  refine (WC.out _).mono ?_
  rintro e w1 ⟨rfl, k1⟩
  have K1 := Lib.hid k1
  clear k1
  go_wp2
  go_ret
  exact ⟨by rw [HR.out]; rfl, K1.out⟩

set_option maxRecDepth 100000 in
set_option maxHeartbeats 4000000 in
theorem speak_any (ty n : Int) (s : ByteArray) (hs : s.size ≤ 100000) (w : World) : Calls Tryd.prog 24 #[.agg #[.int .i64 ty, .int .i64 n, .string s]] w fun e w' => e = .returned (.bool (speakN ⟨ty, n, s.data.toList⟩)) ∧ Keeps (fun _ => False) w w' := by
  have HE : Hid (speakN ⟨ty, n, s.data.toList⟩ = (mayV ⟨ty, n, s.data.toList⟩ && (decide (ty ≠ 4) && (onlyN s.data.toList && !(s.data.toList.contains 34))))) := Lib.hid rfl
  have MC := Lib.hid (fun o => may_any ty n s (w.alloc o))
  have OC := Lib.hid (fun w => only_any s hs w)
  have CC := Lib.hid (fun w => contains_any s w)
  obtain ⟨R, hR⟩ : ∃ R, R = speakN ⟨ty, n, s.data.toList⟩ := ⟨_, rfl⟩
  obtain ⟨m, hm⟩ : ∃ m, m = mayV ⟨ty, n, s.data.toList⟩ := ⟨_, rfl⟩
  obtain ⟨q, hq⟩ : ∃ q, q = onlyN s.data.toList := ⟨_, rfl⟩
  obtain ⟨c, hc⟩ : ∃ c, c = s.data.toList.contains 34 := ⟨_, rfl⟩
  rw [← hR, ← hm, ← hq, ← hc] at HE
  rw [← hm] at MC
  rw [← hq] at OC
  rw [← hc] at CC
  rw [← hR]
  clear hR hm hq hc
  have hd4 : decide (ty ≠ 4) = !(decide (ty = 4)) := by simp
  rw [hd4] at HE
  clear hd4
  go_enter Tryd.func24, Tryd.ntmps24
  go_wp2_with fail
  refine (MC.out _).mono ?_
  rintro e w1 ⟨rfl, k1⟩
  obtain ⟨pn, hpn⟩ : ∃ pn, pn = w.heap.size := ⟨_, rfl⟩
  have hz : w.heap.size < (w.alloc (.cells #[.int .i64 ty, .int .i64 n, .string s] 23)).heap.size := by simp
  have c0 : w1.cell? ⟨w.heap.size, 0, none⟩ = some (.int .i64 ty) := (k1.cell hz (fun h => h)).trans (by simp)
  have c2 : w1.cell? ⟨w.heap.size, 2, none⟩ = some (.string s) := (k1.cell hz (fun h => h)).trans (by simp)
  have K1 := Lib.hid (((Keeps.refl (fun _ => False) w).alloc _).trans k1 (fun _ _ h => h))
  have hp1 := Nat.lt_of_lt_of_le hz k1.size
  rw [← hpn] at c0 c2 hp1 ⊢
  clear hz k1 MC hpn
  have ARM : True := trivial
  cases m with
  | false =>
    have HR : Hid (R = false) := Lib.hid (by rw [HE.out]; rfl)
    go_wp2
    go_ret
    exact ⟨by rw [HR.out]; rfl, K1.out⟩
  | true =>
    by_cases h4 : ty = 4
    · subst h4
      have HR : Hid (R = false) := Lib.hid (by rw [HE.out]; rfl)
      go_wp2
      go_ret
      exact ⟨by rw [HR.out]; rfl, K1.out⟩
    · have b4 : (ty == 4) = false := by simpa using h4
      have b5 : (ty != 4) = true := by simp [h4]
      have c4 : decide (ty = 4) = false := decide_eq_false h4
      cases q with
      | false =>
        have HR : Hid (R = false) := Lib.hid (by rw [HE.out, c4]; rfl)
        go_wp2_with (go_at_call 28; refine (OC.out _).mono ?_; rintro e w' ⟨rfl, rfl⟩)
        go_ret
        exact ⟨by rw [HR.out]; rfl, K1.out⟩
      | true =>
        have HR : Hid (R = !c) := Lib.hid (by rw [HE.out, c4]; rfl)
        go_wp2_with (first | (go_at_call 28; refine (OC.out _).mono ?_; rintro e w' ⟨rfl, rfl⟩) | (go_at_call 33; refine (CC.out _).mono ?_; rintro e w' ⟨rfl, rfl⟩))
        go_ret
        exact ⟨by rw [HR.out]; rfl, K1.out⟩
end Go.Proofs.YtoombjbpblighabDoor
