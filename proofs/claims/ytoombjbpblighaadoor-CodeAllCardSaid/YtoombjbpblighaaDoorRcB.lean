/-
  Layer 8: the document's Name and May. Written by an AI agent.
-/
import Derived.Test.YtoombjbpblighaaDoorRcA
import Derived.Deep.QuietTactic
import Derived.BigQuiet
import Derived.Deep.RegionHeld
namespace Go.Proofs.YtoombjbpblighaaDoor
open Go Go.RowKit Go.Shelf
set_option linter.unusedVariables false
set_option linter.unusedSimpArgs false

theorem RN_cell (w : World) (k : Nat) (h : k < 24) : (w.alloc (.cells #[.string { data := #[] }, .string { data := #[109, 97, 114, 107] }, .string { data := #[105, 110, 116] }, .string { data := #[98, 111, 111, 108] }, .string { data := #[116, 101, 120, 116] }, .string { data := #[108, 111, 97, 100] }, .string { data := #[115, 116, 111, 114, 101] }, .string { data := #[98, 105, 110] }, .string { data := #[110, 101, 103] }, .string { data := #[110, 111, 116] }, .string { data := #[108, 101, 110] }, .string { data := #[105, 110, 100, 101, 120] }, .string { data := #[112, 117, 116] }, .string { data := #[110, 101, 119] }, .string { data := #[105, 110, 112, 117, 116] }, .string { data := #[112, 114, 105, 110, 116] }, .string { data := #[106, 117, 109, 112] }, .string { data := #[102, 97, 108, 115, 101] }, .string { data := #[97, 110, 100] }, .string { data := #[111, 114] }, .string { data := #[99, 97, 108, 108] }, .string { data := #[114, 101, 116] }, .string { data := #[110, 111, 110, 101] }, .string { data := #[112, 111, 112] }] 9)).cell? ⟨w.heap.size, k, none⟩ = some (.string (ofL (nameN (k : Int)))) := by
  match k, h with
  | 0, _ => simp; rfl
  | 1, _ => simp; rfl
  | 2, _ => simp; rfl
  | 3, _ => simp; rfl
  | 4, _ => simp; rfl
  | 5, _ => simp; rfl
  | 6, _ => simp; rfl
  | 7, _ => simp; rfl
  | 8, _ => simp; rfl
  | 9, _ => simp; rfl
  | 10, _ => simp; rfl
  | 11, _ => simp; rfl
  | 12, _ => simp; rfl
  | 13, _ => simp; rfl
  | 14, _ => simp; rfl
  | 15, _ => simp; rfl
  | 16, _ => simp; rfl
  | 17, _ => simp; rfl
  | 18, _ => simp; rfl
  | 19, _ => simp; rfl
  | 20, _ => simp; rfl
  | 21, _ => simp; rfl
  | 22, _ => simp; rfl
  | 23, _ => simp; rfl
  | k + 24, h => exact absurd h (by omega)
set_option maxRecDepth 100000 in
set_option maxHeartbeats 4000000 in
theorem rname_any (op : Int) (w : World) : Calls Tryd.prog 38 #[.int .i64 op] w fun e w' => e = .returned (.string (ofL (nameN op))) ∧ Keeps (fun _ => False) w w' := by
  by_cases h1 : op < 0
  · have hn : nameN op = [] := by unfold nameN; rw [if_neg (by omega)]
    have HN := Lib.hid hn
    have h1d : decide (op < 0) = true := decide_eq_true h1
    clear hn
    go_enter Tryd.func38, Tryd.ntmps38
    go_wp2
    go_ret
    exact ⟨by rw [HN.out]; rfl, (Keeps.refl _ _).alloc _⟩
  · have h1d : decide (op < 0) = false := decide_eq_false h1
    by_cases h2 : 24 ≤ op
    · have hn : nameN op = [] := by unfold nameN; rw [if_neg (by omega)]
      have HN := Lib.hid hn
      have h2d : decide (24 ≤ op) = true := decide_eq_true h2
      clear hn
      go_enter Tryd.func38, Tryd.ntmps38
      go_wp2
      go_ret
      exact ⟨by rw [HN.out]; rfl, (Keeps.refl _ _).alloc _⟩
    · have h2d : decide (24 ≤ op) = false := decide_eq_false h2
      obtain ⟨k, rfl⟩ := Int.eq_ofNat_of_zero_le (show 0 ≤ op by omega)
      have hk : k < 24 := by omega
      have hc := RN_cell w k hk
      have K0 : Hid (Keeps (fun _ => False) w (w.alloc (.cells #[.string { data := #[] }, .string { data := #[109, 97, 114, 107] }, .string { data := #[105, 110, 116] }, .string { data := #[98, 111, 111, 108] }, .string { data := #[116, 101, 120, 116] }, .string { data := #[108, 111, 97, 100] }, .string { data := #[115, 116, 111, 114, 101] }, .string { data := #[98, 105, 110] }, .string { data := #[110, 101, 103] }, .string { data := #[110, 111, 116] }, .string { data := #[108, 101, 110] }, .string { data := #[105, 110, 100, 101, 120] }, .string { data := #[112, 117, 116] }, .string { data := #[110, 101, 119] }, .string { data := #[105, 110, 112, 117, 116] }, .string { data := #[112, 114, 105, 110, 116] }, .string { data := #[106, 117, 109, 112] }, .string { data := #[102, 97, 108, 115, 101] }, .string { data := #[97, 110, 100] }, .string { data := #[111, 114] }, .string { data := #[99, 97, 108, 108] }, .string { data := #[114, 101, 116] }, .string { data := #[110, 111, 110, 101] }, .string { data := #[112, 111, 112] }] 9))) := Lib.hid ((Keeps.refl _ _).alloc _)
      obtain ⟨S, hS⟩ : ∃ S : ByteArray, S = ofL (nameN (k : Int)) := ⟨_, rfl⟩
      rw [← hS] at hc ⊢
      clear hS
      go_enter Tryd.func38, Tryd.ntmps38
      go_wp2
      go_ret
      exact ⟨rfl, K0.out⟩

theorem may_ref (op a b : Int) (s : ByteArray) (h : 1 ≤ op ∧ op ≤ 23) : mayN op a b s = ((decide (op = 2) || numB (hA op) a) && (numB (hB op) b && ((hS op && decide (s.size ≤ 40)) || decide (s.size = 0)))) := by
  have hne : decide (nameN op = []) = false := by
    refine decide_eq_false fun e => ?_
    have key : ∀ k, k < 23 → namesL.getD k [] ≠ [] := by decide
    unfold nameN at e
    rw [if_pos h] at e
    exact key _ (by omega) e
  have h2 : op = 2 → hasN op = 1 := fun e => by subst e; rfl
  have hse : s = ByteArray.empty ↔ s.size = 0 := ⟨fun e => by subst e; rfl, fun e => size0 e⟩
  unfold mayN badN numB hA hB hS
  rw [hne]
  rcases has_four op with e | e | e | e
  all_goals
    rw [e]
    rw [Bool.eq_iff_iff]
    simp only [Bool.and_eq_true, Bool.or_eq_true, Bool.not_eq_true', decide_eq_true_eq, Bool.or_eq_false_iff, Bool.and_eq_false_iff, beq_iff_eq, beq_eq_false_iff_ne, Bool.not_eq_false', decide_eq_false_iff_not, withinB]
    simp
    (try simp only [hse])
    (try omega)
theorem may_out (op a b : Int) (s : ByteArray) (h : ¬ (1 ≤ op ∧ op ≤ 23)) : mayN op a b s = false := by
  have hne : decide (nameN op = []) = true := decide_eq_true (by unfold nameN; rw [if_neg h])
  unfold mayN
  rw [hne]
  simp
set_option maxRecDepth 100000 in
set_option maxHeartbeats 8000000 in
theorem rmay_any (op a b : Int) (s : ByteArray) (w : World) :
    Calls Tryd.prog 34 #[.agg #[.int .i64 op, .int .i64 a, .int .i64 b, .string s]] w fun e w' => e = .returned (.bool (mayN op a b s)) ∧ Keeps (fun _ => False) w w' := by
  have HAC : Hid (∀ w, Calls Tryd.prog 51 #[.int .i64 op] w fun e w' => e = .returned (.bool (hA op)) ∧ Keeps (fun _ => False) w w') := Lib.hid fun w => hasA_any op w
  have HBC : Hid (∀ w, Calls Tryd.prog 52 #[.int .i64 op] w fun e w' => e = .returned (.bool (hB op)) ∧ w = w') := Lib.hid fun w => hasB_any op w
  have HSC : Hid (∀ w, Calls Tryd.prog 53 #[.int .i64 op] w fun e w' => e = .returned (.bool (hS op)) ∧ w = w') := Lib.hid fun w => hasS_any op w
  by_cases hin : 1 ≤ op ∧ op ≤ 23
  · have hM := may_ref op a b s hin
    obtain ⟨hin1, hin2⟩ := hin
    have hI1 : ¬ op < 1 := by omega
    have hd1 : decide (op < 1) = false := decide_eq_false hI1
    have hI2 : ¬ 23 < op := by omega
    have hd2 : decide (23 < op) = false := decide_eq_false hI2
    obtain ⟨M, hMM⟩ : ∃ M, M = mayN op a b s := ⟨_, rfl⟩
    rw [← hMM] at hM ⊢
    have HNC : Hid (∀ w, Calls Tryd.prog 61 #[.bool (hA op), .int .i64 a] w fun e w' => e = .returned (.bool (numB (hA op) a)) ∧ w = w') := Lib.hid fun w => rnum_any _ a w
    have HMC : Hid (∀ w, Calls Tryd.prog 61 #[.bool (hB op), .int .i64 b] w fun e w' => e = .returned (.bool (numB (hB op) b)) ∧ w = w') := Lib.hid fun w => rnum_any _ b w
    obtain ⟨xa, hxa⟩ : ∃ x, x = hA op := ⟨_, rfl⟩
    obtain ⟨xb, hxb⟩ : ∃ x, x = hB op := ⟨_, rfl⟩
    obtain ⟨xs, hxs⟩ : ∃ x, x = hS op := ⟨_, rfl⟩
    rw [← hxa] at hM HAC HNC
    rw [← hxb] at hM HBC HMC
    rw [← hxs] at hM HSC
    obtain ⟨na, hna⟩ : ∃ x, x = numB xa a := ⟨_, rfl⟩
    obtain ⟨nb, hnb⟩ : ∃ x, x = numB xb b := ⟨_, rfl⟩
    rw [← hna] at hM HNC
    rw [← hnb] at hM HMC
    have hem := empty_iff s
    obtain ⟨z, hz⟩ : ∃ z : Bool, z = decide (s.size = 0) := ⟨_, rfl⟩
    obtain ⟨q, hq⟩ : ∃ q : Bool, q = decide (s.size ≤ 40) := ⟨_, rfl⟩
    rw [← hz] at hem hM
    rw [← hq] at hM
    have hqI : decide ((s.size : Int) ≤ 40) = q := by rw [hq]; exact decide_eq_decide.2 (by omega)
    obtain ⟨T3, hT3⟩ : ∃ T3, T3 = ((xs && q) || z) := ⟨_, rfl⟩
    obtain ⟨T4, hT4⟩ : ∃ T4, T4 = (decide (op = 2) || na) := ⟨_, rfl⟩
    rw [← hT3, ← hT4] at hM
    have HM := Lib.hid hM
    have HT3 := Lib.hid hT3
    have HT4 := Lib.hid hT4
    have HQI := Lib.hid hqI
    have HEM := Lib.hid hem
    clear hM hMM hxa hxb hxs hna hnb hz hq hqI hT3 hT4 hem
    go_enter Tryd.func34, Tryd.ntmps34
    go_upto_region 3 with fail
    generalize hwA : w.alloc _ = wA
    have kA : Keeps (fun _ => False) w wA := by rw [← hwA]; exact (Keeps.refl _ _).alloc _
    have c0 : wA.cell? ⟨w.heap.size, 0, none⟩ = some (.int .i64 op) := by rw [← hwA]; simp
    have c1 : wA.cell? ⟨w.heap.size, 1, none⟩ = some (.int .i64 a) := by rw [← hwA]; simp
    have c2 : wA.cell? ⟨w.heap.size, 2, none⟩ = some (.int .i64 b) := by rw [← hwA]; simp
    have c3 : wA.cell? ⟨w.heap.size, 3, none⟩ = some (.string s) := by rw [← hwA]; simp
    obtain ⟨pn, hpn⟩ : ∃ pn, pn = w.heap.size := ⟨_, rfl⟩
    rw [← hpn] at c0 c1 c2 c3 ⊢
    have KA := Lib.hid kA
    have hpb := cell_ltk c0
    clear hwA kA hpn
    go_cut [3] from 13 to 26 (fun s3 wx => s3 = .bool T3 ∧ wx = wA)
    case first =>
      have hem := HEM.out
      have hqi := HQI.out
      cases xs with
      | true =>
        cases q with
        | true =>
          go_wp2_with (go_at_call 53; refine (HSC.out _).mono ?_; rintro e w' ⟨rfl, rfl⟩)
          go_meet
          exact ⟨by rw [HT3.out]; rfl, rfl⟩
        | false =>
          go_wp2_with (go_at_call 53; refine (HSC.out _).mono ?_; rintro e w' ⟨rfl, rfl⟩)
          go_meet
          exact ⟨by rw [HT3.out]; rfl, rfl⟩
      | false =>
        go_wp2_with (go_at_call 53; refine (HSC.out _).mono ?_; rintro e w' ⟨rfl, rfl⟩)
        go_meet
        exact ⟨by rw [HT3.out]; rfl, rfl⟩
    case rest =>
      obtain ⟨rfl, hwc⟩ := hcut
      rw [hwc]
      clear hwc
      go_upto_region 4 with fail
      go_cut [4] from 27 to 37 (fun s4 wx => s4 = .bool T4 ∧ Keeps (fun _ => False) wA wx)
      case first =>
        by_cases h2 : op = 2
        · have h2d : decide (op = 2) = true := decide_eq_true h2
          have h2b : (op == 2) = true := by simpa using h2
          have HE : Hid (T4 = true) := Lib.hid (by rw [HT4.out, h2d]; rfl)
          clear h2
          refine wp_region_held_drew (S := fun w' => w'.cell? ⟨pn, 0, none⟩ = some (.int .i64 op) ∧ w'.cell? ⟨pn, 1, none⟩ = some (.int .i64 a) ∧ Keeps (fun _ => False) wA w') (by kernel_rfl) (⟨c0, c1, (Keeps.refl _ _).drew⟩) (fun hHeld => ?_)
          refine wpAnyH_take (i := 0) (v := ?_) rfl (by kernel_rfl) (by kernel_rfl) (by kernel_rfl) (fun _ _ _ h => h) (Or.inl ⟨by rfl, ?_⟩) (by assumption) ?_
          rotate_left
          · (intro w' hSw; (try dsimp only at hSw); obtain ⟨s0, s1, sk⟩ := hSw; go_simp; (try (with_reducible rfl)))
          simp only [Act.put, List.getElem_toArray, List.getElem_cons_zero, List.setIfInBounds_toArray, List.set_cons_succ, List.set_cons_zero]
          refine wpAnyH_take (i := 1) (v := ?_) rfl (by kernel_rfl) (by kernel_rfl) (by kernel_rfl) (fun _ _ _ h => h) (Or.inl ⟨by rfl, ?_⟩) (by assumption) ?_
          rotate_left
          · (intro w' hSw; (try dsimp only at hSw); obtain ⟨s0, s1, sk⟩ := hSw; go_simp; (try (with_reducible rfl)))
          simp only [Act.put, List.getElem_toArray, List.getElem_cons_succ, List.getElem_cons_zero, List.setIfInBounds_toArray, List.set_cons_succ, List.set_cons_zero]
          refine wpAnyH_take (i := 2) (v := ?_) rfl (by kernel_rfl) (by kernel_rfl) (by kernel_rfl) (fun _ _ _ h => h) (Or.inl ⟨by rfl, ?_⟩) (by assumption) ?_
          rotate_left
          · (intro w' hSw; (try dsimp only at hSw); obtain ⟨s0, s1, sk⟩ := hSw; go_simp; (try (with_reducible rfl)))
          simp only [Act.put, List.getElem_toArray, List.getElem_cons_succ, List.getElem_cons_zero, List.setIfInBounds_toArray, List.set_cons_succ, List.set_cons_zero]
          refine wpAnyH_take (i := 3) (v := ?_) rfl (by kernel_rfl) (by kernel_rfl) (by kernel_rfl) (fun _ _ _ h => h) (Or.inl ⟨by rfl, ?_⟩) (by assumption) ?_
          rotate_left
          · (intro w' hSw; (try dsimp only at hSw); obtain ⟨s0, s1, sk⟩ := hSw; go_simp; (try (with_reducible rfl)))
          simp only [Act.put, List.getElem_toArray, List.getElem_cons_succ, List.getElem_cons_zero, List.setIfInBounds_toArray, List.set_cons_succ, List.set_cons_zero]
          refine wpAnyH_take (i := 4) (v := undef) rfl (by kernel_rfl) (by kernel_rfl) (by kernel_rfl) (fun _ _ _ h => h) (Or.inr ⟨by rfl, rfl⟩) (by assumption) ?_
          simp only [Act.put, List.getElem_toArray, List.getElem_cons_succ, List.getElem_cons_zero, List.setIfInBounds_toArray, List.set_cons_succ, List.set_cons_zero]
          refine wpAnyH_take (i := 5) (v := undef) rfl (by kernel_rfl) (by kernel_rfl) (by kernel_rfl) (fun _ _ _ h => h) (Or.inr ⟨by rfl, rfl⟩) (by assumption) ?_
          simp only [Act.put, List.getElem_toArray, List.getElem_cons_succ, List.getElem_cons_zero, List.setIfInBounds_toArray, List.set_cons_succ, List.set_cons_zero]
          refine wpAnyH_take (i := 6) (v := undef) rfl (by kernel_rfl) (by kernel_rfl) (by kernel_rfl) (fun _ _ _ h => h) (Or.inr ⟨by rfl, rfl⟩) (by assumption) ?_
          simp only [Act.put, List.getElem_toArray, List.getElem_cons_succ, List.getElem_cons_zero, List.setIfInBounds_toArray, List.set_cons_succ, List.set_cons_zero]
          refine wpAnyH_take (i := 7) (v := undef) rfl (by kernel_rfl) (by kernel_rfl) (by kernel_rfl) (fun _ _ _ h => h) (Or.inr ⟨by rfl, rfl⟩) (by assumption) ?_
          simp only [Act.put, List.getElem_toArray, List.getElem_cons_succ, List.getElem_cons_zero, List.setIfInBounds_toArray, List.set_cons_succ, List.set_cons_zero]
          refine wpAnyH_take (i := 8) (v := undef) rfl (by kernel_rfl) (by kernel_rfl) (by kernel_rfl) (fun _ _ _ h => h) (Or.inr ⟨by rfl, rfl⟩) (by assumption) ?_
          simp only [Act.put, List.getElem_toArray, List.getElem_cons_succ, List.getElem_cons_zero, List.setIfInBounds_toArray, List.set_cons_succ, List.set_cons_zero]
          refine wpAnyH_take (i := 9) (v := undef) rfl (by kernel_rfl) (by kernel_rfl) (by kernel_rfl) (fun _ _ _ h => h) (Or.inr ⟨by rfl, rfl⟩) (by assumption) ?_
          simp only [Act.put, List.getElem_toArray, List.getElem_cons_succ, List.getElem_cons_zero, List.setIfInBounds_toArray, List.set_cons_succ, List.set_cons_zero]
          refine wpAnyH_take (i := 10) (v := ?_) rfl (by kernel_rfl) (by kernel_rfl) (by kernel_rfl) (fun _ _ _ h => h) (Or.inl ⟨by rfl, ?_⟩) (by assumption) ?_
          rotate_left
          · (intro w' hSw; (try dsimp only at hSw); obtain ⟨s0, s1, sk⟩ := hSw; go_simp; (try (with_reducible rfl)))
          simp only [Act.put, List.getElem_toArray, List.getElem_cons_succ, List.getElem_cons_zero, List.setIfInBounds_toArray, List.set_cons_succ, List.set_cons_zero]
          refine wpAnyH_take (i := 11) (v := ?_) rfl (by kernel_rfl) (by kernel_rfl) (by kernel_rfl) (fun _ _ _ h => h) (Or.inl ⟨by rfl, ?_⟩) (by assumption) ?_
          rotate_left
          · (intro w' hSw; (try dsimp only at hSw); obtain ⟨s0, s1, sk⟩ := hSw; go_simp; (try (with_reducible rfl)))
          simp only [Act.put, List.getElem_toArray, List.getElem_cons_succ, List.getElem_cons_zero, List.setIfInBounds_toArray, List.set_cons_succ, List.set_cons_zero]
          refine wpAnyH_done (by kernel_rfl) ?_ _
          go_wp2
          go_meet
          exact ⟨by rw [HE.out], (Keeps.refl _ _).drew⟩
        · have h2d : decide (op = 2) = false := decide_eq_false h2
          have h2b : (op == 2) = false := by simpa using h2
          have HE : Hid (T4 = na) := Lib.hid (by rw [HT4.out, h2d]; rfl)
          clear h2
          refine wp_region_held_drew (S := fun w' => w'.cell? ⟨pn, 0, none⟩ = some (.int .i64 op) ∧ w'.cell? ⟨pn, 1, none⟩ = some (.int .i64 a) ∧ Keeps (fun _ => False) wA w') (by kernel_rfl) (⟨c0, c1, (Keeps.refl _ _).drew⟩) (fun hHeld => ?_)
          refine wpAnyH_take (i := 0) (v := ?_) rfl (by kernel_rfl) (by kernel_rfl) (by kernel_rfl) (fun _ _ _ h => h) (Or.inl ⟨by rfl, ?_⟩) (by assumption) ?_
          rotate_left
          · (intro w' hSw; (try dsimp only at hSw); obtain ⟨s0, s1, sk⟩ := hSw; go_simp; (try (with_reducible rfl)))
          simp only [Act.put, List.getElem_toArray, List.getElem_cons_zero, List.setIfInBounds_toArray, List.set_cons_succ, List.set_cons_zero]
          refine wpAnyH_take (i := 1) (v := ?_) rfl (by kernel_rfl) (by kernel_rfl) (by kernel_rfl) (fun _ _ _ h => h) (Or.inl ⟨by rfl, ?_⟩) (by assumption) ?_
          rotate_left
          · (intro w' hSw; (try dsimp only at hSw); obtain ⟨s0, s1, sk⟩ := hSw; go_simp; (try (with_reducible rfl)))
          simp only [Act.put, List.getElem_toArray, List.getElem_cons_succ, List.getElem_cons_zero, List.setIfInBounds_toArray, List.set_cons_succ, List.set_cons_zero]
          refine wpAnyH_take (i := 2) (v := ?_) rfl (by kernel_rfl) (by kernel_rfl) (by kernel_rfl) (fun _ _ _ h => h) (Or.inl ⟨by rfl, ?_⟩) (by assumption) ?_
          rotate_left
          · (intro w' hSw; (try dsimp only at hSw); obtain ⟨s0, s1, sk⟩ := hSw; go_simp; (try (with_reducible rfl)))
          simp only [Act.put, List.getElem_toArray, List.getElem_cons_succ, List.getElem_cons_zero, List.setIfInBounds_toArray, List.set_cons_succ, List.set_cons_zero]
          refine wpAnyH_take (i := 3) (v := ?_) rfl (by kernel_rfl) (by kernel_rfl) (by kernel_rfl) (fun _ _ _ h => h) (Or.inl ⟨by rfl, ?_⟩) (by assumption) ?_
          rotate_left
          · (intro w' hSw; (try dsimp only at hSw); obtain ⟨s0, s1, sk⟩ := hSw; go_simp; (try (with_reducible rfl)))
          simp only [Act.put, List.getElem_toArray, List.getElem_cons_succ, List.getElem_cons_zero, List.setIfInBounds_toArray, List.set_cons_succ, List.set_cons_zero]
          refine wpAnyH_take (i := 4) (v := ?_) rfl (by kernel_rfl) (by kernel_rfl) (by kernel_rfl) (fun _ _ _ h => h) (Or.inl ⟨by rfl, ?_⟩) (by assumption) ?_
          rotate_left
          · (intro w' hSw; (try dsimp only at hSw); obtain ⟨s0, s1, sk⟩ := hSw; go_simp; (try (with_reducible rfl)))
          simp only [Act.put, List.getElem_toArray, List.getElem_cons_succ, List.getElem_cons_zero, List.setIfInBounds_toArray, List.set_cons_succ, List.set_cons_zero]
          refine wpAnyH_take (i := 5) (v := ?_) rfl (by kernel_rfl) (by kernel_rfl) (by kernel_rfl) (fun _ _ _ h => h) (Or.inl ⟨by rfl, ?_⟩) (by assumption) ?_
          rotate_left
          · (intro w' hSw; (try dsimp only at hSw); obtain ⟨s0, s1, sk⟩ := hSw; go_simp; (try (with_reducible rfl)))
          simp only [Act.put, List.getElem_toArray, List.getElem_cons_succ, List.getElem_cons_zero, List.setIfInBounds_toArray, List.set_cons_succ, List.set_cons_zero]
          refine wpAnyH_take (i := 7) (v := ?_) rfl (by kernel_rfl) (by kernel_rfl) (by kernel_rfl) (fun _ _ _ h => h) (Or.inl ⟨by rfl, ?_⟩) (by assumption) ?_
          rotate_left
          · (intro w' hSw; (try dsimp only at hSw); obtain ⟨s0, s1, sk⟩ := hSw; go_simp; (try (with_reducible rfl)))
          simp only [Act.put, List.getElem_toArray, List.getElem_cons_succ, List.getElem_cons_zero, List.setIfInBounds_toArray, List.set_cons_succ, List.set_cons_zero]
          refine wpAnyH_take (i := 8) (v := ?_) rfl (by kernel_rfl) (by kernel_rfl) (by kernel_rfl) (fun _ _ _ h => h) (Or.inl ⟨by rfl, ?_⟩) (by assumption) ?_
          rotate_left
          · (intro w' hSw; (try dsimp only at hSw); obtain ⟨s0, s1, sk⟩ := hSw; go_simp; (try (with_reducible rfl)))
          simp only [Act.put, List.getElem_toArray, List.getElem_cons_succ, List.getElem_cons_zero, List.setIfInBounds_toArray, List.set_cons_succ, List.set_cons_zero]
          refine wpAnyH_ready (rs := [6]) (by kernel_rfl) (by simp) ?_
          refine AllReadyH.cons rfl (fun K hK => ?_) AllReadyH.nil
          go_simp
          (go_at_call 51; refine (HAC.out _).mono ?_; rintro e w6 ⟨rfl, hb4⟩; (try go_simp))
          refine hK.out _ _ ?_ (fun hHeld => ?_)
          · (try dsimp only); exact ⟨(hb4.cell (cell_ltk hHeld.1) (fun h => h)).trans hHeld.1, (hb4.cell (cell_ltk hHeld.1) (fun h => h)).trans hHeld.2.1, hHeld.2.2.trans hb4 (fun _ _ h => h)⟩
          clear hK K
          refine wpAnyH_ready (rs := [9]) (by kernel_rfl) (by simp) ?_
          refine AllReadyH.cons rfl (fun K hK => ?_) AllReadyH.nil
          go_simp
          (go_at_call 61; refine (HNC.out _).mono ?_; rintro e w7 ⟨rfl, rfl⟩; have hb4 := Keeps.refl (fun _ => False) w6; (try go_simp))
          refine hK.out _ _ ?_ (fun hHeld => ?_)
          · (try dsimp only); exact ⟨(hb4.cell (cell_ltk hHeld.1) (fun h => h)).trans hHeld.1, (hb4.cell (cell_ltk hHeld.1) (fun h => h)).trans hHeld.2.1, hHeld.2.2.trans hb4 (fun _ _ h => h)⟩
          clear hK K
          refine wpAnyH_take (i := 10) (v := ?_) rfl (by kernel_rfl) (by kernel_rfl) (by kernel_rfl) (fun _ _ _ h => h) (Or.inl ⟨by rfl, ?_⟩) (by assumption) ?_
          rotate_left
          · (intro w' hSw; (try dsimp only at hSw); obtain ⟨s0, s1, sk⟩ := hSw; go_simp; (try (with_reducible rfl)))
          simp only [Act.put, List.getElem_toArray, List.getElem_cons_succ, List.getElem_cons_zero, List.setIfInBounds_toArray, List.set_cons_succ, List.set_cons_zero]
          refine wpAnyH_take (i := 11) (v := ?_) rfl (by kernel_rfl) (by kernel_rfl) (by kernel_rfl) (fun _ _ _ h => h) (Or.inl ⟨by rfl, ?_⟩) (by assumption) ?_
          rotate_left
          · (intro w' hSw; (try dsimp only at hSw); obtain ⟨s0, s1, sk⟩ := hSw; go_simp; (try (with_reducible rfl)))
          simp only [Act.put, List.getElem_toArray, List.getElem_cons_succ, List.getElem_cons_zero, List.setIfInBounds_toArray, List.set_cons_succ, List.set_cons_zero]
          refine wpAnyH_done (by kernel_rfl) ?_ _
          have hk9 : Keeps (fun _ => False) wA w6 := (by assumption : w6.cell? ⟨pn, 0, none⟩ = some (.int .i64 op) ∧ w6.cell? ⟨pn, 1, none⟩ = some (.int .i64 a) ∧ Keeps (fun _ => False) wA w6).2.2
          have HK9 := Lib.hid hk9
          clear hk9
          go_wp2
          go_meet
          exact ⟨by rw [HE.out], HK9.out⟩
      case rest =>
        obtain ⟨rfl, kc⟩ := hcut
        have c0 := (kc.cell hpb (fun h => h)).trans c0
        have c2 := (kc.cell hpb (fun h => h)).trans c2
        have hpc := cell_ltk c0
        have KF := Lib.hid (KA.out.trans kc (fun _ _ h => h))
        clear kc
        cases T4 with
        | false =>
          have HE : Hid (M = false) := Lib.hid (by rw [HM.out]; rfl)
          go_wp2
          go_quiet (fail)
          go_wp2
          go_ret
          exact ⟨by rw [HE.out]; rfl, KF.out.trans (drew_keeps _ _) (fun _ _ h => h)⟩
        | true =>
          cases nb with
          | false =>
            have HE : Hid (M = false) := Lib.hid (by rw [HM.out]; rfl)
            go_wp2
            go_quiet (first | ((go_at_call 52; exact Calls.quiet_of_same ((HBC.out _).mono fun e w' h => ⟨h.1, h.2.symm⟩))) | ((go_at_call 61; exact Calls.quiet_of_same ((HMC.out _).mono fun e w' h => ⟨h.1, h.2.symm⟩))))
            go_wp2
            go_ret
            exact ⟨by rw [HE.out]; rfl, KF.out.trans (drew_keeps _ _) (fun _ _ h => h)⟩
          | true =>
            have HE : Hid (M = T3) := Lib.hid (by rw [HM.out]; rfl)
            go_wp2
            go_quiet (first | ((go_at_call 52; exact Calls.quiet_of_same ((HBC.out _).mono fun e w' h => ⟨h.1, h.2.symm⟩))) | ((go_at_call 61; exact Calls.quiet_of_same ((HMC.out _).mono fun e w' h => ⟨h.1, h.2.symm⟩))))
            go_wp2
            go_ret
            exact ⟨by rw [HE.out]; rfl, KF.out.trans (drew_keeps _ _) (fun _ _ h => h)⟩
  · have HE := Lib.hid (may_out op a b s hin)
    by_cases h1 : op < 1
    · have hd1 : decide (op < 1) = true := decide_eq_true h1
      clear hin
      go_enter Tryd.func34, Tryd.ntmps34
      go_wp2
      go_ret
      rw [HE.out]
      exact ⟨rfl, (Keeps.refl _ _).alloc _⟩
    · have h2 : 23 < op := by omega
      have hd1 : decide (op < 1) = false := decide_eq_false h1
      have hd2 : decide (23 < op) = true := decide_eq_true h2
      clear hin
      go_enter Tryd.func34, Tryd.ntmps34
      go_wp2
      go_ret
      rw [HE.out]
      exact ⟨rfl, (Keeps.refl _ _).alloc _⟩

end Go.Proofs.YtoombjbpblighaaDoor
