/-
  Layer 16: the walk of EditsAll. Written by an AI agent.
-/
import Derived.Test.YtpighdioomjnmabEdI
import Derived.Test.YtpighdioomjnmabEdJ
import Derived.Test.YtpighdioomjnmabEdF
import Derived.Test.YtpighdioomjnmabEdD
import Derived.Test.YtpighdioomjnmabEdE
import Derived.Deep.RegionHeld3
namespace Go.Proofs.Ytpighdioomjnmab
open Go.RowKit Go.Shelf
set_option linter.unusedVariables false
set_option linter.unusedSimpArgs false

theorem own_none {w : World} {A : Option Addr} {n c : Nat} {xs : List Value} (h : w.ownsRow 0 49 5 (.slice A n c) n xs) : A = none → n = 0 := fun e => by
  rcases h.2 with ⟨_, h0⟩ | ⟨g, cap, cur, e1, _⟩
  · exact h0
  · simp only [Value.slice.injEq] at e1
    rw [e1.1] at e
    cases e

theorem same_true {w : World} {e : Ending} {w' : World} {L M : List Ed} (hLM : L = M) (h : ∃ bo : Bool, e = .returned (.bool bo) ∧ (bo = true ↔ L = M) ∧ Keeps (fun _ => False) w w') : e = .returned (.bool true) ∧ Keeps (fun _ => False) w w' := by
  obtain ⟨bo, rfl, h1, h2⟩ := h
  obtain rfl := h1.2 hLM
  exact ⟨rfl, h2⟩

set_option maxRecDepth 100000 in
set_option maxHeartbeats 4000000 in
theorem all_walk (A : Option Addr) (c : Nat) (L : List Ed) (C : Option Addr) (d : Nat) (M : List Ed) (t : Int) (w : World) (hA : RdE w A L) (hL : L.length ≤ 9223372036854775807) (hC : RdE w C M) (hM : M.length ≤ 9223372036854775807) :
    Calls Try.prog 7 #[.slice A L.length c, .slice C M.length d, .int .i64 t] w fun e w' => e = .returned (.bool true) ∧ Below w.heap.size w w' := by
  have F1 : Hid (∀ w1, Keeps (fun _ => False) w w1 → Calls Try.prog 23 #[.slice A L.length c] w1 (NewE (fewE L) w1)) := fun w1 h => few_any w1 A c L (hA.keep h) hL
  have F2 : Hid (∀ w1, Keeps (fun _ => False) w w1 → Calls Try.prog 23 #[.slice C M.length d] w1 (NewE (fewE M) w1)) := fun w1 h => few_any w1 C d M (hC.keep h) hM
  obtain ⟨l, hl⟩ : ∃ l : Nat, l = L.length := ⟨_, rfl⟩
  obtain ⟨m, hm⟩ : ∃ m : Nat, m = M.length := ⟨_, rfl⟩
  obtain ⟨F, hF⟩ : ∃ F : List Ed, F = fewE L := ⟨_, rfl⟩
  obtain ⟨G, hG⟩ : ∃ G : List Ed, G = fewE M := ⟨_, rfl⟩
  have hF10 : F.length ≤ 10 := by rw [hF]; exact fewE_length L
  have hG10 : G.length ≤ 10 := by rw [hG]; exact fewE_length M
  rw [← hF, ← hl] at F1
  rw [← hG, ← hm] at F2
  rw [← hl, ← hm]
  clear hA hL hC hM hl hm hF hG
  go_enter Try.func7, Try.ntmps7
  go_wp2_with fail
  refine (shown16 w).mono ?_
  rintro e w1 ⟨rfl, k1⟩
  have C1 := Lib.hid (F1.out w1 k1)
  have K1 := Lib.hid k1
  clear k1 F1
  go_wp2_with fail
  refine C1.out.mono ?_
  rintro e w2 ⟨A2, c2, rfl, o2, b2, k2⟩
  have k2' := K1.out.trans k2 (fun _ _ h => h)
  have C2 := Lib.hid (F2.out w2 k2')
  have K2 := Lib.hid k2'
  have O2 := Lib.hid o2
  clear C1 k2 k2' o2 b2 F2
  obtain ⟨n, hn⟩ : ∃ n : Nat, n = F.length := ⟨_, rfl⟩
  rw [← hn] at hF10 O2 ⊢
  have HN := Lib.hid hn
  clear hn
  go_wp2_with fail
  refine C2.out.mono ?_
  rintro e w3 ⟨A3, c3, rfl, o3, b3, k3⟩
  have O2 := Lib.hid (own_of O2.out k3)
  have K3 := Lib.hid (K2.out.trans k3 (fun _ _ h => h))
  have O3 := Lib.hid o3
  obtain ⟨q, hq⟩ : ∃ q : Nat, q = G.length := ⟨_, rfl⟩
  rw [← hq] at hG10 O3 ⊢
  have HQ := Lib.hid hq
  clear hq C2 k3 o3 b3
  go_wp2_with fail
  go_loopw [8] (fun s8 wr => ∃ k : Nat, k ≤ n ∧ s8 = .int .i64 k ∧ Keeps (fun _ => False) w3 wr) (fun s8 _ => n - (intOf s8).toNat)
  case atStart => exact ⟨0, Nat.zero_le _, rfl, Keeps.refl _ _⟩
  case round =>
    obtain ⟨k, hk, rfl, kr⟩ := hrel
    by_cases hkn : k < n
    · have hkn' : (k : Int) < (n : Int) := by omega
      have hk0 : (0 : Int) ≤ (k : Int) := by omega
      obtain ⟨b, off, rfl, hc⟩ := (own_rdE (own_of O2.out kr) HN.out) (by rw [← HN.out]; omega)
      obtain ⟨c0, c1, c2, c3, c4⟩ := hc k (by rw [← HN.out]; exact hkn)
      obtain ⟨y, hy⟩ : ∃ y : Ed, y = F.getD k default := ⟨_, rfl⟩
      rw [← hy] at c0 c1 c2 c3 c4
      obtain ⟨yt, ynm, yty, yn, ys⟩ := y
      obtain ⟨bv, _, hM1, hM2⟩ := emay_same yt ynm yty yn ys
      have M1 := Lib.hid hM1
      have M2 := Lib.hid hM2
      have KR := Lib.hid kr
      clear hc hy kr hM1 hM2
      go_wp2_with fail
      refine wp_region_held_drew (S := fun w' => w'.cell? ⟨b, off + k * 5, none⟩ = some (.int .i64 yt) ∧ w'.cell? ⟨b, off + k * 5 + 1, none⟩ = some (.string ynm) ∧ w'.cell? ⟨b, off + k * 5 + 2, none⟩ = some (.int .i64 yty) ∧ w'.cell? ⟨b, off + k * 5 + 3, none⟩ = some (.int .i64 yn) ∧ w'.cell? ⟨b, off + k * 5 + 4, none⟩ = some (.string ys) ∧ Keeps (fun _ => False) wr w') (by kernel_rfl) (⟨c0, c1, c2, c3, c4, (Keeps.refl _ _).drew⟩) (fun hHeld => ?_)
      clear c0 c1 c2 c3 c4
      refine wpAnyH_take (i := 0) (v := ?_) rfl (by kernel_rfl) (by kernel_rfl) (by kernel_rfl) (fun _ _ _ h => h) (Or.inl ⟨by rfl, ?_⟩) (by assumption) ?_
      rotate_left
      · (intro w' hSw; (try dsimp only at hSw); obtain ⟨c0, c1, c2, c3, c4, ck⟩ := hSw; go_simp; (try (with_reducible rfl)))
      simp only [Act.put, List.getElem_toArray, List.getElem_cons_zero, List.setIfInBounds_toArray, List.set_cons_succ, List.set_cons_zero]
      refine wpAnyH_take (i := 1) (v := ?_) rfl (by kernel_rfl) (by kernel_rfl) (by kernel_rfl) (fun _ _ _ h => h) (Or.inl ⟨by rfl, ?_⟩) (by assumption) ?_
      rotate_left
      · (intro w' hSw; (try dsimp only at hSw); obtain ⟨c0, c1, c2, c3, c4, ck⟩ := hSw; go_simp; (try (with_reducible rfl)))
      simp only [Act.put, List.getElem_toArray, List.getElem_cons_succ, List.getElem_cons_zero, List.setIfInBounds_toArray, List.set_cons_succ, List.set_cons_zero]
      refine wpAnyH_take (i := 2) (v := ?_) rfl (by kernel_rfl) (by kernel_rfl) (by kernel_rfl) (fun _ _ _ h => h) (Or.inl ⟨by rfl, ?_⟩) (by assumption) ?_
      rotate_left
      · (intro w' hSw; (try dsimp only at hSw); obtain ⟨c0, c1, c2, c3, c4, ck⟩ := hSw; go_simp; (try (with_reducible rfl)))
      simp only [Act.put, List.getElem_toArray, List.getElem_cons_succ, List.getElem_cons_zero, List.setIfInBounds_toArray, List.set_cons_succ, List.set_cons_zero]
      refine wpAnyH_take (i := 3) (v := ?_) rfl (by kernel_rfl) (by kernel_rfl) (by kernel_rfl) (fun _ _ _ h => h) (Or.inl ⟨by rfl, ?_⟩) (by assumption) ?_
      rotate_left
      · (intro w' hSw; (try dsimp only at hSw); obtain ⟨c0, c1, c2, c3, c4, ck⟩ := hSw; go_simp; (try (with_reducible rfl)))
      simp only [Act.put, List.getElem_toArray, List.getElem_cons_succ, List.getElem_cons_zero, List.setIfInBounds_toArray, List.set_cons_succ, List.set_cons_zero]
      refine wpAnyH_take (i := 5) (v := ?_) rfl (by kernel_rfl) (by kernel_rfl) (by kernel_rfl) (fun _ _ _ h => h) (Or.inl ⟨by rfl, ?_⟩) (by assumption) ?_
      rotate_left
      · (intro w' hSw; (try dsimp only at hSw); obtain ⟨c0, c1, c2, c3, c4, ck⟩ := hSw; go_simp; (try (with_reducible rfl)))
      simp only [Act.put, List.getElem_toArray, List.getElem_cons_succ, List.getElem_cons_zero, List.setIfInBounds_toArray, List.set_cons_succ, List.set_cons_zero]
      refine wpAnyH_take (i := 6) (v := ?_) rfl (by kernel_rfl) (by kernel_rfl) (by kernel_rfl) (fun _ _ _ h => h) (Or.inl ⟨by rfl, ?_⟩) (by assumption) ?_
      rotate_left
      · (intro w' hSw; (try dsimp only at hSw); obtain ⟨c0, c1, c2, c3, c4, ck⟩ := hSw; go_simp; (try (with_reducible rfl)))
      simp only [Act.put, List.getElem_toArray, List.getElem_cons_succ, List.getElem_cons_zero, List.setIfInBounds_toArray, List.set_cons_succ, List.set_cons_zero]
      refine wpAnyH_take (i := 7) (v := ?_) rfl (by kernel_rfl) (by kernel_rfl) (by kernel_rfl) (fun _ _ _ h => h) (Or.inl ⟨by rfl, ?_⟩) (by assumption) ?_
      rotate_left
      · (intro w' hSw; (try dsimp only at hSw); obtain ⟨c0, c1, c2, c3, c4, ck⟩ := hSw; go_simp; (try (with_reducible rfl)))
      simp only [Act.put, List.getElem_toArray, List.getElem_cons_succ, List.getElem_cons_zero, List.setIfInBounds_toArray, List.set_cons_succ, List.set_cons_zero]
      refine wpAnyH_take (i := 8) (v := ?_) rfl (by kernel_rfl) (by kernel_rfl) (by kernel_rfl) (fun _ _ _ h => h) (Or.inl ⟨by rfl, ?_⟩) (by assumption) ?_
      rotate_left
      · (intro w' hSw; (try dsimp only at hSw); obtain ⟨c0, c1, c2, c3, c4, ck⟩ := hSw; go_simp; (try (with_reducible rfl)))
      simp only [Act.put, List.getElem_toArray, List.getElem_cons_succ, List.getElem_cons_zero, List.setIfInBounds_toArray, List.set_cons_succ, List.set_cons_zero]
      refine wpAnyH_ready (rs := [4]) (by kernel_rfl) (by simp) ?_
      refine AllReadyH.cons rfl (fun K hK => ?_) AllReadyH.nil
      · go_simp
        (go_at_call 24; refine (M1.out _).mono ?_; rintro e w6 ⟨rfl, hb4⟩; (try go_simp))
        refine hK.out _ _ ?_ (fun hHeld => ?_)
        · (try dsimp only)
          exact ⟨(hb4.cell (cell_ltk hHeld.1) (fun h => h)).trans hHeld.1, (hb4.cell (cell_ltk hHeld.2.1) (fun h => h)).trans hHeld.2.1, (hb4.cell (cell_ltk hHeld.2.2.1) (fun h => h)).trans hHeld.2.2.1, (hb4.cell (cell_ltk hHeld.2.2.2.1) (fun h => h)).trans hHeld.2.2.2.1, (hb4.cell (cell_ltk hHeld.2.2.2.2.1) (fun h => h)).trans hHeld.2.2.2.2.1, hHeld.2.2.2.2.2.trans hb4 (fun _ _ h => h)⟩
        clear hK K
        refine wpAnyH_ready (rs := [9]) (by kernel_rfl) (by simp) ?_
        refine AllReadyH.cons rfl (fun K hK => ?_) AllReadyH.nil
        go_simp
        (go_at_call 25; refine (M2.out _).mono ?_; rintro e w7 ⟨rfl, hb4⟩; (try go_simp))
        refine hK.out _ _ ?_ (fun hHeld => ?_)
        · (try dsimp only)
          exact ⟨(hb4.cell (cell_ltk hHeld.1) (fun h => h)).trans hHeld.1, (hb4.cell (cell_ltk hHeld.2.1) (fun h => h)).trans hHeld.2.1, (hb4.cell (cell_ltk hHeld.2.2.1) (fun h => h)).trans hHeld.2.2.1, (hb4.cell (cell_ltk hHeld.2.2.2.1) (fun h => h)).trans hHeld.2.2.2.1, (hb4.cell (cell_ltk hHeld.2.2.2.2.1) (fun h => h)).trans hHeld.2.2.2.2.1, hHeld.2.2.2.2.2.trans hb4 (fun _ _ h => h)⟩
        clear hK K
        refine wpAnyH_take (i := 10) (v := ?_) rfl (by kernel_rfl) (by kernel_rfl) (by kernel_rfl) (fun _ _ _ h => h) (Or.inl ⟨by rfl, ?_⟩) (by assumption) ?_
        rotate_left
        · (intro w' hSw; (try dsimp only at hSw); obtain ⟨c0, c1, c2, c3, c4, ck⟩ := hSw; go_simp; (try (with_reducible rfl)))
        simp only [Act.put, List.getElem_toArray, List.getElem_cons_succ, List.getElem_cons_zero, List.setIfInBounds_toArray, List.set_cons_succ, List.set_cons_zero]
        refine wpAnyH_done (by kernel_rfl) ?_ _
        have hk7 := hHeld.2.2.2.2.2
        have K7 := Lib.hid (KR.out.trans hk7 (fun _ _ h => h))
        clear hk7
        clear hHeld
        go_wp2
        go_roundw
        case rel => exact ⟨k + 1, by omega, by go_num, K7.out⟩
        case measure => simp [intOf]; omega
    · obtain rfl : k = n := by omega
      have hd : decide (k < k) = false := by simp
      have O2 := Lib.hid (own_of O2.out kr)
      have O3 := Lib.hid (own_of O3.out kr)
      have KR := Lib.hid (K3.out.trans kr (fun _ _ h => h))
      have hr2 := own_rdE O2.out HN.out
      have hr3 := own_rdE O3.out HQ.out
      have h02 := own_none O2.out
      have h03 := own_none O3.out
      have RM : Hid (∀ wq, Keeps (fun _ => False) wr wq → Calls Try.prog 26 #[.slice A2 k c2, .slice A3 q c3] wq (NewE (mergeE F G) wq)) := fun wq h => by
        rw [HN.out, HQ.out]
        exact rmerge_any wq A2 c2 F (hr2.keep h) (by rw [← HN.out]; exact h02) A3 c3 G (hr3.keep h) (by rw [← HN.out, ← HQ.out]; omega)
      have MM : Hid (∀ wq, Keeps (fun _ => False) wr wq → Calls Try.prog 28 #[.slice A2 k c2, .slice A3 q c3] wq (NewE (mergeE F G) wq)) := fun wq h => by
        rw [HN.out, HQ.out]
        exact merge_any wq A2 c2 F (hr2.keep h) (by rw [← HN.out]; exact h02) A3 c3 G (hr3.keep h) (by rw [← HN.out, ← HQ.out]; omega)
      have IM : Hid (∀ wq, Keeps (fun _ => False) wr wq → Calls Try.prog 29 #[.slice A2 k c2, .slice A3 q c3] wq (NewE (mergeE F G) wq)) := fun wq h => by
        rw [HN.out, HQ.out]
        exact insert_any wq A2 c2 F (hr2.keep h) (by rw [← HN.out]; exact h02) A3 c3 G (hr3.keep h) (by rw [← HN.out, ← HQ.out]; omega)
      have UM : Hid (∀ wq, Keeps (fun _ => False) wr wq → Calls Try.prog 30 #[.slice A2 k c2, .int .i64 t] wq (NewE (uptoE F t) wq)) := fun wq h => by
        rw [HN.out]
        exact upto_any wq A2 c2 F (hr2.keep h) (by rw [← HN.out]; omega) t
      have VM : Hid (∀ wq, Keeps (fun _ => False) wr wq → Calls Try.prog 31 #[.slice A2 k c2, .int .i64 t] wq (NewE (uptoE F t) wq)) := fun wq h => by
        rw [HN.out]
        exact rupto_any wq A2 c2 F (hr2.keep h) (by rw [← HN.out]; omega) t
      obtain ⟨R, hR⟩ : ∃ R : List Ed, R = mergeE F G := ⟨_, rfl⟩
      have hRl : R.length ≤ 20 := by rw [hR, mergeE_length, ← HN.out, ← HQ.out]; omega
      obtain ⟨U, hU⟩ : ∃ U : List Ed, U = uptoE F t := ⟨_, rfl⟩
      have hUl : U.length ≤ 10 := by rw [hU]; exact Nat.le_trans (uptoE_le F t) (by rw [← HN.out]; omega)
      rw [← hR] at RM MM IM
      rw [← hU] at UM VM
      obtain ⟨r, hr⟩ : ∃ r : Nat, r = R.length := ⟨_, rfl⟩
      obtain ⟨u, hu⟩ : ∃ u : Nat, u = U.length := ⟨_, rfl⟩
      have HR := Lib.hid hr
      have HU := Lib.hid hu
      rw [← hr] at hRl
      rw [← hu] at hUl
      clear hr2 hr3 h02 h03 kr hR hU hr hu O2 O3
      have CR := Lib.hid (RM.out wr (Keeps.refl _ _))
      go_wp2_with fail
      refine CR.out.mono ?_
      rintro e w4 ⟨A4, c4, rfl, o4, b4, k4⟩
      rw [← HR.out] at o4 ⊢
      have O4 := Lib.hid o4
      have K4 := Lib.hid k4
      have CM := Lib.hid (MM.out w4 k4)
      clear o4 b4 k4 CR
      go_wp2_with fail
      refine CM.out.mono ?_
      rintro e w5 ⟨A5, c5, rfl, o5, b5, k5⟩
      rw [← HR.out] at o5 ⊢
      have O4 := Lib.hid (own_of O4.out k5)
      have K5 := Lib.hid (K4.out.trans k5 (fun _ _ h => h))
      have CS : Hid (Calls Try.prog 27 #[.slice A5 r c5, .slice A4 r c4] w5 fun e w' => e = .returned (.bool true) ∧ Keeps (fun _ => False) w5 w') := by
        rw [HR.out]
        exact (same_any w5 A5 A4 c5 c4 R R (own_rdE o5 HR.out) (own_rdE O4.out HR.out) (by rw [← HR.out]; omega) (by rw [← HR.out]; omega)).mono fun e w' h => same_true rfl h
      clear o5 b5 k5 CM
      go_wp2_with fail
      refine CS.out.mono ?_
      rintro e w6 ⟨rfl, k6⟩
      have O4 := Lib.hid (own_of O4.out k6)
      have k6' := K5.out.trans k6 (fun _ _ h => h)
      have CI := Lib.hid (IM.out w6 k6')
      have K6 := Lib.hid k6'
      clear k6 k6' CS
      go_wp2_with fail
      refine CI.out.mono ?_
      rintro e w7 ⟨A7, c7, rfl, o7, b7, k7⟩
      rw [← HR.out] at o7 ⊢
      have O4 := Lib.hid (own_of O4.out k7)
      have K7 := Lib.hid (K6.out.trans k7 (fun _ _ h => h))
      have CS : Hid (Calls Try.prog 27 #[.slice A7 r c7, .slice A4 r c4] w7 fun e w' => e = .returned (.bool true) ∧ Keeps (fun _ => False) w7 w') := by
        rw [HR.out]
        exact (same_any w7 A7 A4 c7 c4 R R (own_rdE o7 HR.out) (own_rdE O4.out HR.out) (by rw [← HR.out]; omega) (by rw [← HR.out]; omega)).mono fun e w' h => same_true rfl h
      clear o7 b7 k7 CI
      go_wp2_with fail
      refine CS.out.mono ?_
      rintro e w8 ⟨rfl, k8⟩
      have k8' := K7.out.trans k8 (fun _ _ h => h)
      have CU := Lib.hid (UM.out w8 k8')
      have K8 := Lib.hid k8'
      clear k8 k8' CS O4
      go_wp2_with fail
      refine CU.out.mono ?_
      rintro e w9 ⟨A9, c9, rfl, o9, b9, k9⟩
      rw [← HU.out] at o9 ⊢
      have O9 := Lib.hid o9
      have k9' := K8.out.trans k9 (fun _ _ h => h)
      have CV := Lib.hid (VM.out w9 k9')
      have K9 := Lib.hid k9'
      clear o9 b9 k9 k9' CU
      go_wp2_with fail
      refine CV.out.mono ?_
      rintro e v1 ⟨D1, d1, rfl, p1, b1, j1⟩
      rw [← HU.out] at p1 ⊢
      have O9 := Lib.hid (own_of O9.out j1)
      have J1 := Lib.hid (K9.out.trans j1 (fun _ _ h => h))
      have CS : Hid (Calls Try.prog 27 #[.slice A9 u c9, .slice D1 u d1] v1 fun e w' => e = .returned (.bool true) ∧ Keeps (fun _ => False) v1 w') := by
        rw [HU.out]
        exact (same_any v1 A9 D1 c9 d1 U U (own_rdE O9.out HU.out) (own_rdE p1 HU.out) (by rw [← HU.out]; omega) (by rw [← HU.out]; omega)).mono fun e w' h => same_true rfl h
      clear p1 b1 j1 CV
      go_wp2_with fail
      refine CS.out.mono ?_
      rintro e v2 ⟨rfl, j2⟩
      have hfin : Below w.heap.size w v2 := ((KR.out.trans J1.out (fun _ _ h => h)).trans j2 (T := fun _ => False) (fun _ _ h => h)).toBelow (Nat.le_refl _) (fun _ h => h.elim)
      have HFn := Lib.hid hfin
      clear j2 CS hfin
      go_wp2
      go_ret
      exact ⟨rfl, HFn.out⟩

end Go.Proofs.Ytpighdioomjnmab
