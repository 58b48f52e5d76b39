/-
  Layer 22: the contract of Read. Written by an AI agent (woy.py).
-/
import Derived.Test.YtoombjbpblighabDoorWoX
namespace Go.Proofs.YtoombjbpblighabDoor
open Go Go.RowKit Go.Shelf
set_option linter.unusedVariables false
set_option linter.unusedSimpArgs false
set_option maxRecDepth 100000

def HearT (k : Nat) (W : List UInt8) (again : Cm) (pa : Nat) (wX w' : World) : Prop := ∃ ag, (ag = again ∨ ag = hearN k W again) ∧ CmdAt w' pa ag ∧ Keeps (fun q => q = pa) wX w'
theorem hear_twice (k : Nat) (W : List UInt8) (a : Cm) : hearN k W (hearN k W a) = hearN k W a := by
  match k with
  | 0 => rfl
  | 1 => rfl
  | 2 => rfl
  | k + 3 => rfl
set_option maxHeartbeats 16000000 in
theorem read_any (s : ByteArray) (hs : s.size ≤ 9000) (w : World) (hw : WordW w) : Calls Tryd.prog 10 #[.string s] w (ReadE s.data.toList w) := by
  obtain ⟨l, hl⟩ : ∃ l, l = s.data.toList := ⟨_, rfl⟩
  have hln : l.length = s.size := by rw [hl, len_size]
  obtain ⟨S, hS⟩ : ∃ S, S = splitSp l := ⟨_, rfl⟩
  obtain ⟨N, hN⟩ : ∃ N, N = S.length := ⟨_, rfl⟩
  have hsm := split_small l
  have hpo := split_pos l
  have hrc := read_cases l
  have SP : Hid (∀ w, Calls Tryd.prog 12 #[.string s, .string { data := #[32] }] w fun e w' => SplitE l w e w') := Lib.hid fun w => by
    rw [hl]
    exact split_any s (by omega) w
  unfold SplitE at SP
  rw [← hS] at hsm hpo hrc SP
  rw [← hN] at SP hsm hpo
  obtain ⟨V, hV⟩ : ∃ V, V = S.getD 0 [] := ⟨_, rfl⟩
  rw [← hV] at hrc
  have hVl : V.length ≤ 9000 := by
    have := hsm.1 V (by
      rw [hV, show S.getD 0 [] = S[0]'(by omega) by simp [List.getD, show 0 < S.length by omega]]
      exact List.getElem_mem _)
    omega
  have PC : Hid (∀ w, Calls Tryd.prog 11 #[.string (ofL V)] w fun e w' => PartsE V w e w') := Lib.hid fun w => by
    have h := parts_any (ofL V) w
    rw [ofL_list] at h
    exact h
  have HW := Lib.hid hw
  have HRC := Lib.hid hrc
  have HSM := Lib.hid hsm.1
  have hN2 : N ≤ 9001 := by omega
  have HNS := Lib.hid hN
  have HV := Lib.hid hV
  have HSE : Hid (s = ofL l) := Lib.hid (ofL_of hl.symm)
  rw [← hl]
  clear hw hrc hsm hN hS hV hl
  go_enter Tryd.func10, Tryd.ntmps10
  go_wp2_with fail
  generalize hwA : w.alloc _ = wA
  have hZ : CmdAt wA w.heap.size (zeroC []) := by rw [← hwA]; exact CmdAt.fresh w (zeroC [])
  have kA : Keeps (fun _ => False) w wA := by rw [← hwA]; exact (Keeps.refl _ _).alloc _
  obtain ⟨p2, hp2⟩ : ∃ p2, p2 = w.heap.size := ⟨_, rfl⟩
  rw [← hp2] at hZ ⊢
  have HP2 := Lib.hid hp2
  clear hp2 hwA
  refine (SP.out _).mono ?_
  rintro e w1 ⟨q, rfl, k1, hq, hcl⟩
  have HZ1 := Lib.hid (hZ.keep k1 (fun h => h))
  have K1 : Hid (Keeps (fun _ => False) w w1) := Lib.hid (kA.trans k1 (fun _ _ h => h))
  have HCL := Lib.hid hcl
  have s0 := hcl 0 hpo
  rw [← HV.out] at s0
  have hpoI : (0 : Int) < (N : Int) := by omega
  clear hZ kA k1 hcl SP
  go_wp2_with fail
  refine (PC.out _).mono ?_
  rintro e w2 ⟨v, b, rfl, k2, hk⟩
  have HZ2 := Lib.hid (HZ1.out.keep k2 (fun h => h))
  have K2 : Hid (Keeps (fun _ => False) w w2) := Lib.hid (K1.out.trans k2 (fun _ _ h => h))
  have HCL2 : Hid (∀ i, i < N → w2.cell? ⟨q, i, none⟩ = some (.string (ofL (S.getD i [])))) := Lib.hid fun i hi => (k2.cell hq (fun h => h)).trans (HCL.out i hi)
  have hq2 : q < w2.heap.size := Nat.lt_of_lt_of_le hq k2.size
  clear k2 PC HCL K1 HZ1 s0 hq
  cases hks : kindsN V with
  | none =>
    rw [hks] at hk
    simp only at hk
    subst hk
    have HF : Hid (readN l = none) := Lib.hid (by rw [HRC.out, hks])
    clear hks
    have z0 := HZ2.out.c0
    have z1 := HZ2.out.c1
    have z2 := HZ2.out.c2
    have z3 := HZ2.out.c3
    have z4 := HZ2.out.c4
    have z5 := HZ2.out.c5
    have z6 := HZ2.out.c6
    have f0 := HZ2.out.f 0 (by omega)
    have f1 := HZ2.out.f 1 (by omega)
    have f2 := HZ2.out.f 2 (by omega)
    have f3 := HZ2.out.f 3 (by omega)
    have f4 := HZ2.out.f 4 (by omega)
    have f5 := HZ2.out.f 5 (by omega)
    have f6 := HZ2.out.f 6 (by omega)
    have hz := HZ2.out.lt
    go_wp2
    refine bodyPost_ret (v := .tuple #[cmdV (zeroC []), .int .i64 80]) ?_ rfl ?_
    · rw [results_ct rfl]
      go_simp
      rfl
    · exact ⟨⟨zeroC [], 80, rfl, by rw [HF.out]; exact ⟨rfl, rfl⟩⟩, keep7 K2.out _ (Nat.le_of_eq HP2.out.symm) _ _ _ _ _ _ _⟩
  | some ks =>
    rw [hks] at hk
    simp only at hk
    obtain ⟨rfl, hpa⟩ := hk
    obtain ⟨B, rfl, hpb⟩ := parts_base hpa
    have hrc2 := HRC.out
    rw [hks] at hrc2
    simp only at hrc2
    obtain ⟨hk3, hke⟩ := kinds_small hks
    obtain ⟨n, hn⟩ : ∃ n, n = ks.length := ⟨_, rfl⟩
    rw [← hn] at hk3 hrc2 ⊢
    rw [← HNS.out] at hrc2
    have HRC2 := Lib.hid hrc2
    have hpb0 := Lib.hid hpb
    have HKE := Lib.hid hke
    have HN := Lib.hid hn
    have nI : IntKind.i64.wrap (1 + (n : Int)) = 1 + (n : Int) := IntWalk.i64_in _ (by omega)
    clear hpa hpb hke hn hks hrc2 HRC
    by_cases hlen : N = 1 + n
    case neg =>
      have HF : Hid (readN l = none) := Lib.hid (by rw [HRC2.out, if_neg hlen])
      have t1 : ((N : Int) == 1 + (n : Int)) = false := beq_eq_false_iff_ne.2 (by omega)
      have t2 : ¬ (N : Int) = 1 + (n : Int) := by omega
      have z0 := HZ2.out.c0
      have z1 := HZ2.out.c1
      have z2 := HZ2.out.c2
      have z3 := HZ2.out.c3
      have z4 := HZ2.out.c4
      have z5 := HZ2.out.c5
      have z6 := HZ2.out.c6
      have f0 := HZ2.out.f 0 (by omega)
      have f1 := HZ2.out.f 1 (by omega)
      have f2 := HZ2.out.f 2 (by omega)
      have f3 := HZ2.out.f 3 (by omega)
      have f4 := HZ2.out.f 4 (by omega)
      have f5 := HZ2.out.f 5 (by omega)
      have f6 := HZ2.out.f 6 (by omega)
      have hz := HZ2.out.lt
      go_wp2
      refine bodyPost_ret (v := .tuple #[cmdV (zeroC []), .int .i64 80]) ?_ rfl ?_
      · rw [results_ct rfl]
        go_simp
        rfl
      · exact ⟨⟨zeroC [], 80, rfl, by rw [HF.out]; exact ⟨rfl, rfl⟩⟩, keep7 K2.out _ (Nat.le_of_eq HP2.out.symm) _ _ _ _ _ _ _⟩
    case pos =>
    have t1 : ((N : Int) == 1 + (n : Int)) = true := beq_iff_eq.2 (by omega)
    have t2 : (N : Int) = 1 + (n : Int) := by omega
    have s0 := HCL2.out 0 hpo
    rw [← HV.out] at s0
    have hrd := HRC2.out
    rw [if_pos hlen] at hrd
    have HRD := Lib.hid hrd
    clear hrd HRC2
    go_wp2_with fail
    generalize hwL : w2.alloc _ = wL
    have hA0 : CmdAt wL w2.heap.size (zeroC V) := by rw [← hwL]; exact CmdAt.fresh w2 (zeroC V)
    have kL : Keeps (fun _ => False) w2 wL := by rw [← hwL]; exact (Keeps.refl _ _).alloc _
    obtain ⟨pa, hpa⟩ : ∃ pa, pa = w2.heap.size := ⟨_, rfl⟩
    rw [← hpa] at hA0 ⊢
    have HKW : Hid (∀ wr, Keeps (fun q => q = pa) wL wr → Keeps (fun _ => False) w wr) := Lib.hid fun wr k => (K2.out.trans kL (fun _ _ h => h)).trans k (fun x hx e => by have := K2.out.size; omega)
    have HZR : Hid (∀ wr, Keeps (fun q => q = pa) wL wr → CmdAt wr p2 (zeroC [])) := Lib.hid fun wr k => (HZ2.out.keep kL (fun h => h)).keep k (fun e => by have := HZ2.out.lt; omega)
    have HWR : Hid (∀ wr, Keeps (fun q => q = pa) wL wr → WordW wr) := Lib.hid fun wr k => HW.out.keep (HKW.out wr k)
    have HSR : Hid (∀ wr, Keeps (fun q => q = pa) wL wr → ∀ i, i < N → wr.cell? ⟨q, i, none⟩ = some (.string (ofL (S.getD i [])))) := Lib.hid fun wr k i hi => (k.cell (Nat.lt_of_lt_of_le hq2 kL.size) (by omega)).trans ((kL.cell hq2 (fun h => h)).trans (HCL2.out i hi))
    have HQR : Hid (∀ wr, Keeps (fun q => q = pa) wL wr → q < wr.heap.size) := Lib.hid fun wr k => Nat.lt_of_lt_of_le (Nat.lt_of_lt_of_le hq2 kL.size) k.size
    have HPQ : Hid (∀ wr, Keeps (fun q => q = pa) wL wr → 0 < n → ∃ q : Nat, B = some ⟨q, 0, none⟩ ∧ q < wr.heap.size ∧ ∀ i, i < n → wr.cell? ⟨q, i * 2, none⟩ = some (.func (.func (sayF (ks.getD i 0))) #[] #[]) ∧ wr.cell? ⟨q, i * 2 + 1, none⟩ = some (.func (.func (hearF (ks.getD i 0))) #[] #[])) := Lib.hid fun wr k h0 => by
      obtain ⟨q, e, h1, h2⟩ := hpb0.out (by rw [← HN.out]; exact h0)
      have hq : ¬ q = pa := by omega
      have hqL : q < wL.heap.size := Nat.lt_of_lt_of_le h1 kL.size
      refine ⟨q, e, Nat.lt_of_lt_of_le hqL k.size, fun i hi => ?_⟩
      obtain ⟨a1, a2⟩ := h2 i (by rw [← HN.out]; exact hi)
      exact ⟨(k.cell hqL hq).trans ((kL.cell h1 (fun h => h)).trans a1), (k.cell hqL hq).trans ((kL.cell h1 (fun h => h)).trans a2)⟩
    have HA0 := Lib.hid hA0
    have hqa : q ≠ pa := by omega
    have hpp : pa ≠ p2 := by have := HZ2.out.lt; omega
    clear hwL hA0 kL hpa s0 K2 hpb0 HW HZ2 HCL2 hq2 t1 t2
    go_loopw [38] (fun s38 wr => ∃ (i : Nat) (again : Cm), i ≤ n ∧ s38 = .int .i64 i ∧ hearAll ks S.tail (zeroC V) = hearAll (ks.drop i) (S.tail.drop i) again ∧ SzC again ∧ CmdAt wr pa again ∧ Keeps (fun q => q = pa) wL wr) (fun s38 _ => n + 1 - (intOf s38).toNat)
    case atStart => exact ⟨0, zeroC V, Nat.zero_le _, rfl, rfl, zero_sz V (by omega), HA0.out, Keeps.refl _ _⟩
    case round =>
      obtain ⟨i, again, hi, rfl, hgo, hsz, hca, hkr⟩ := hrel
      have HGO := Lib.hid hgo
      have HSZ := Lib.hid hsz
      have HCA := Lib.hid hca
      have KR := Lib.hid hkr
      clear hgo hca hkr hsz
      by_cases h3 : i < n
      · obtain ⟨g, hB, hg, hcl⟩ := HPQ.out wr KR.out (by omega)
        subst hB
        obtain ⟨d0, d1⟩ := hcl i h3
        have s1 := HSR.out wr KR.out (1 + i) (by omega)
        have hqw := HQR.out wr KR.out
        have hST : S.tail.length = ks.length := by rw [List.length_tail, ← HNS.out, ← HN.out]; omega
        have hD := hear_drop ks S.tail hST again i (by rw [← HN.out]; exact h3)
        rw [tail_getD] at hD
        have hkm := HKE.out (ks.getD i 0) (by
          have hi2 : i < ks.length := by rw [← HN.out]; exact h3
          rw [show ks.getD i 0 = ks[i] by simp [List.getD, hi2]]
          exact List.getElem_mem _)
        obtain ⟨k, hk⟩ : ∃ k, k = ks.getD i 0 := ⟨_, rfl⟩
        obtain ⟨W, hW⟩ : ∃ W, W = S.getD (1 + i) [] := ⟨_, rfl⟩
        have hWl : W.length ≤ 9000 := by
          have := HSM.out W (by
            rw [hW, show S.getD (1 + i) [] = S[1 + i]'(by rw [← HNS.out]; omega) by simp [List.getD, show 1 + i < S.length by rw [← HNS.out]; omega]]
            exact List.getElem_mem _)
          omega
        rw [← hk] at hkm d0 d1 hD
        rw [← hW] at s1 hD
        have HD := Lib.hid hD
        have HHE : Hid (∀ ag wq, WordW wq → CmdAt wq pa ag → Calls Tryd.prog (hearF k) #[.pointer (some ⟨pa, 0, none⟩), .string (ofL W)] wq (HearE k W pa ag wq)) := Lib.hid fun ag wq h1 h2 => hear_any k W (by omega) pa ag wq h1 h2
        unfold HearE at HHE
        have HS2 := Lib.hid (hear_sz k W (by omega) again HSZ.out)
        have h3I : (i : Int) < (n : Int) := by omega
        have hi0 : (0 : Int) ≤ (i : Int) := by omega
        have h3d : decide ((i : Int) < (n : Int)) = true := decide_eq_true h3I
        have iI : IntKind.i64.wrap (1 + (i : Int)) = 1 + (i : Int) := IntWalk.i64_in _ (by omega)
        have iN : (1 : Int) + (i : Int) < (N : Int) := by omega
        have iZ : (0 : Int) ≤ 1 + (i : Int) := by omega
        have iT : ((1 : Int) + (i : Int)).toNat = 1 + i := by omega
        clear hcl hk hW hD hST
        have hk4 : k = 0 ∨ k = 1 ∨ k = 2 ∨ k = 3 := by omega
        rcases hk4 with rfl | rfl | rfl | rfl
        · replace d0 : wr.cell? ⟨g, i * 2, none⟩ = some (.func (.func 13) #[] #[]) := d0
          replace d1 : wr.cell? ⟨g, i * 2 + 1, none⟩ = some (.func (.func 15) #[] #[]) := d1
          have HHE : Hid (∀ ag wq, WordW wq → CmdAt wq pa ag → Calls Tryd.prog 15 #[.pointer (some ⟨pa, 0, none⟩), .string (ofL W)] wq fun e w' => e = .returned (.tuple #[]) ∧ CmdAt w' pa (hearN 0 W ag) ∧ Keeps (fun q => q = pa) wq w') := HHE
          go_wp2_with fail
          generalize hwX : wr.alloc _ = wX
          have kX : Keeps (fun _ => False) wr wX := by rw [← hwX]; exact (Keeps.refl _ _).alloc _
          have x1 : wX.cell? ⟨wr.heap.size, 1, none⟩ = some (.func (.func 15) #[] #[]) := by rw [← hwX]; simp
          have sq := (kX.cell hqw (fun h => h)).trans s1
          obtain ⟨px, hpx⟩ : ∃ px, px = wr.heap.size := ⟨_, rfl⟩
          rw [← hpx] at x1 ⊢
          have KX := Lib.hid (KR.out.trans (keep_up pa kX) (fun _ _ h => h))
          have HCX := Lib.hid (HCA.out.keep kX (fun h => h))
          have HH2 : Hid (∀ wq, HearT 0 W again pa wX wq → Calls Tryd.prog 15 #[.pointer (some ⟨pa, 0, none⟩), .string (ofL W)] wq fun e w' => e = .returned (.tuple #[]) ∧ CmdAt w' pa (hearN 0 W again) ∧ Keeps (fun q => q = pa) wX w') := Lib.hid fun wq h => by
            obtain ⟨ag, h1, h2, h3⟩ := h
            refine (HHE.out ag wq (HWR.out _ (KX.out.trans h3 (fun _ _ h => h))) h2).mono fun e w' h => ⟨h.1, ?_, h3.trans h.2.2 (fun _ _ h => h)⟩
            rcases h1 with rfl | rfl
            · exact h.2.1
            · have := h.2.1
              rw [hear_twice] at this
              exact this
          have HT0 : HearT 0 W again pa wX wX.drew := ⟨again, Or.inl rfl, HCX.out.keep ((Keeps.refl (fun _ => False) wX).drew) (fun h => h), (Keeps.refl _ _).drew⟩
          have hqp := hqa
          have hxp : px ≠ pa := by have := HCA.out.lt; omega
          have hpxl := cell_ltk x1
          have hqxl := cell_ltk sq
          have X1 := Lib.hid x1
          have SQ := Lib.hid sq
          clear hwX kX hpx d0 d1 s1 HHE
          refine wp_region_held_drew (S := fun w' => w'.cell? ⟨px, 1, none⟩ = some (.func (.func 15) #[] #[]) ∧ w'.cell? ⟨q, 1 + i, none⟩ = some (.string (ofL W)) ∧ HearT 0 W again pa wX w') (by kernel_rfl) (⟨x1, sq, HT0⟩) (fun hHeld => ?_)
          clear x1 sq
          refine wpAnyH_take (i := 0) (v := ?_) rfl (by kernel_rfl) (by kernel_rfl) (by kernel_rfl) (fun _ _ _ h => h) (Or.inl ⟨by rfl, ?_⟩) (by assumption) ?_
          rotate_left
          · (intro w' hSw; (try dsimp only at hSw); obtain ⟨x1, sq, sk⟩ := hSw; go_simp; (try (with_reducible rfl)))
          simp only [Act.put, List.getElem_toArray, List.getElem_cons_succ, List.getElem_cons_zero, List.setIfInBounds_toArray, List.set_cons_succ, List.set_cons_zero]
          refine wpAnyH_take (i := 1) (v := ?_) rfl (by kernel_rfl) (by kernel_rfl) (by kernel_rfl) (fun _ _ _ h => h) (Or.inl ⟨by rfl, ?_⟩) (by assumption) ?_
          rotate_left
          · (intro w' hSw; (try dsimp only at hSw); obtain ⟨x1, sq, sk⟩ := hSw; go_simp; (try (with_reducible rfl)))
          simp only [Act.put, List.getElem_toArray, List.getElem_cons_succ, List.getElem_cons_zero, List.setIfInBounds_toArray, List.set_cons_succ, List.set_cons_zero]
          refine wpAnyH_take (i := 2) (v := ?_) rfl (by kernel_rfl) (by kernel_rfl) (by kernel_rfl) (fun _ _ _ h => h) (Or.inl ⟨by rfl, ?_⟩) (by assumption) ?_
          rotate_left
          · (intro w' hSw; (try dsimp only at hSw); obtain ⟨x1, sq, sk⟩ := hSw; go_simp; (try (with_reducible rfl)))
          simp only [Act.put, List.getElem_toArray, List.getElem_cons_succ, List.getElem_cons_zero, List.setIfInBounds_toArray, List.set_cons_succ, List.set_cons_zero]
          refine wpAnyH_take (i := 3) (v := ?_) rfl (by kernel_rfl) (by kernel_rfl) (by kernel_rfl) (fun _ _ _ h => h) (Or.inl ⟨by rfl, ?_⟩) (by assumption) ?_
          rotate_left
          · (intro w' hSw; (try dsimp only at hSw); obtain ⟨x1, sq, sk⟩ := hSw; go_simp; (try (with_reducible rfl)))
          simp only [Act.put, List.getElem_toArray, List.getElem_cons_succ, List.getElem_cons_zero, List.setIfInBounds_toArray, List.set_cons_succ, List.set_cons_zero]
          refine wpAnyH_take (i := 4) (v := ?_) rfl (by kernel_rfl) (by kernel_rfl) (by kernel_rfl) (fun _ _ _ h => h) (Or.inl ⟨by rfl, ?_⟩) (by assumption) ?_
          rotate_left
          · (intro w' hSw; (try dsimp only at hSw); obtain ⟨x1, sq, sk⟩ := hSw; go_simp; (try (with_reducible rfl)))
          simp only [Act.put, List.getElem_toArray, List.getElem_cons_succ, List.getElem_cons_zero, List.setIfInBounds_toArray, List.set_cons_succ, List.set_cons_zero]
          refine wpAnyH_take (i := 5) (v := ?_) rfl (by kernel_rfl) (by kernel_rfl) (by kernel_rfl) (fun _ _ _ h => h) (Or.inl ⟨by rfl, ?_⟩) (by assumption) ?_
          rotate_left
          · (intro w' hSw; (try dsimp only at hSw); obtain ⟨x1, sq, sk⟩ := hSw; go_simp; (try (with_reducible rfl)))
          simp only [Act.put, List.getElem_toArray, List.getElem_cons_succ, List.getElem_cons_zero, List.setIfInBounds_toArray, List.set_cons_succ, List.set_cons_zero]
          refine wpAnyH_take (i := 6) (v := ?_) rfl (by kernel_rfl) (by kernel_rfl) (by kernel_rfl) (fun _ _ _ h => h) (Or.inl ⟨by rfl, ?_⟩) (by assumption) ?_
          rotate_left
          · (intro w' hSw; (try dsimp only at hSw); obtain ⟨x1, sq, sk⟩ := hSw; go_simp; (try (with_reducible rfl)))
          simp only [Act.put, List.getElem_toArray, List.getElem_cons_succ, List.getElem_cons_zero, List.setIfInBounds_toArray, List.set_cons_succ, List.set_cons_zero]
          refine wpAnyH_ready (rs := [7]) (by kernel_rfl) (by simp) ?_
          refine AllReadyH.cons rfl (fun K hK => ?_) AllReadyH.nil
          go_simp
          (go_at_call 15; refine (HH2.out _ hHeld.2.2).mono ?_; rintro e w3 ⟨rfl, ca3, k3⟩; (try go_simp))
          have HCA3 := Lib.hid ca3
          have K3 := Lib.hid (KX.out.trans k3 (fun _ _ h => h))
          refine hK.out _ _ ?_ (fun hHeld => ?_)
          · (try dsimp only)
            exact ⟨(k3.cell hpxl hxp).trans X1.out, (k3.cell hqxl hqp).trans SQ.out, _, Or.inr rfl, ca3, k3⟩
          clear hK K ca3 k3
          refine wpAnyH_done (by kernel_rfl) ?_ _
          have HF : Hid (hearAll ks S.tail (zeroC V) = hearAll (ks.drop (i + 1)) (S.tail.drop (i + 1)) (hearN 0 W again)) := Lib.hid (by rw [HGO.out, HD.out])
          clear hHeld HH2 HT0 iI iN iZ iT X1 SQ hqxl hpxl
          go_wp2
          go_roundw
          case rel => exact ⟨i + 1, hearN 0 W again, by omega, by go_num, HF.out, HS2.out, HCA3.out, K3.out⟩
          case measure => simp [intOf]; omega
        · replace d0 : wr.cell? ⟨g, i * 2, none⟩ = some (.func (.func 16) #[] #[]) := d0
          replace d1 : wr.cell? ⟨g, i * 2 + 1, none⟩ = some (.func (.func 17) #[] #[]) := d1
          have HHE : Hid (∀ ag wq, WordW wq → CmdAt wq pa ag → Calls Tryd.prog 17 #[.pointer (some ⟨pa, 0, none⟩), .string (ofL W)] wq fun e w' => e = .returned (.tuple #[]) ∧ CmdAt w' pa (hearN 1 W ag) ∧ Keeps (fun q => q = pa) wq w') := HHE
          go_wp2_with fail
          generalize hwX : wr.alloc _ = wX
          have kX : Keeps (fun _ => False) wr wX := by rw [← hwX]; exact (Keeps.refl _ _).alloc _
          have x1 : wX.cell? ⟨wr.heap.size, 1, none⟩ = some (.func (.func 17) #[] #[]) := by rw [← hwX]; simp
          have sq := (kX.cell hqw (fun h => h)).trans s1
          obtain ⟨px, hpx⟩ : ∃ px, px = wr.heap.size := ⟨_, rfl⟩
          rw [← hpx] at x1 ⊢
          have KX := Lib.hid (KR.out.trans (keep_up pa kX) (fun _ _ h => h))
          have HCX := Lib.hid (HCA.out.keep kX (fun h => h))
          have HH2 : Hid (∀ wq, HearT 1 W again pa wX wq → Calls Tryd.prog 17 #[.pointer (some ⟨pa, 0, none⟩), .string (ofL W)] wq fun e w' => e = .returned (.tuple #[]) ∧ CmdAt w' pa (hearN 1 W again) ∧ Keeps (fun q => q = pa) wX w') := Lib.hid fun wq h => by
            obtain ⟨ag, h1, h2, h3⟩ := h
            refine (HHE.out ag wq (HWR.out _ (KX.out.trans h3 (fun _ _ h => h))) h2).mono fun e w' h => ⟨h.1, ?_, h3.trans h.2.2 (fun _ _ h => h)⟩
            rcases h1 with rfl | rfl
            · exact h.2.1
            · have := h.2.1
              rw [hear_twice] at this
              exact this
          have HT0 : HearT 1 W again pa wX wX.drew := ⟨again, Or.inl rfl, HCX.out.keep ((Keeps.refl (fun _ => False) wX).drew) (fun h => h), (Keeps.refl _ _).drew⟩
          have hqp := hqa
          have hxp : px ≠ pa := by have := HCA.out.lt; omega
          have hpxl := cell_ltk x1
          have hqxl := cell_ltk sq
          have X1 := Lib.hid x1
          have SQ := Lib.hid sq
          clear hwX kX hpx d0 d1 s1 HHE
          refine wp_region_held_drew (S := fun w' => w'.cell? ⟨px, 1, none⟩ = some (.func (.func 17) #[] #[]) ∧ w'.cell? ⟨q, 1 + i, none⟩ = some (.string (ofL W)) ∧ HearT 1 W again pa wX w') (by kernel_rfl) (⟨x1, sq, HT0⟩) (fun hHeld => ?_)
          clear x1 sq
          refine wpAnyH_take (i := 0) (v := ?_) rfl (by kernel_rfl) (by kernel_rfl) (by kernel_rfl) (fun _ _ _ h => h) (Or.inl ⟨by rfl, ?_⟩) (by assumption) ?_
          rotate_left
          · (intro w' hSw; (try dsimp only at hSw); obtain ⟨x1, sq, sk⟩ := hSw; go_simp; (try (with_reducible rfl)))
          simp only [Act.put, List.getElem_toArray, List.getElem_cons_succ, List.getElem_cons_zero, List.setIfInBounds_toArray, List.set_cons_succ, List.set_cons_zero]
          refine wpAnyH_take (i := 1) (v := ?_) rfl (by kernel_rfl) (by kernel_rfl) (by kernel_rfl) (fun _ _ _ h => h) (Or.inl ⟨by rfl, ?_⟩) (by assumption) ?_
          rotate_left
          · (intro w' hSw; (try dsimp only at hSw); obtain ⟨x1, sq, sk⟩ := hSw; go_simp; (try (with_reducible rfl)))
          simp only [Act.put, List.getElem_toArray, List.getElem_cons_succ, List.getElem_cons_zero, List.setIfInBounds_toArray, List.set_cons_succ, List.set_cons_zero]
          refine wpAnyH_take (i := 2) (v := ?_) rfl (by kernel_rfl) (by kernel_rfl) (by kernel_rfl) (fun _ _ _ h => h) (Or.inl ⟨by rfl, ?_⟩) (by assumption) ?_
          rotate_left
          · (intro w' hSw; (try dsimp only at hSw); obtain ⟨x1, sq, sk⟩ := hSw; go_simp; (try (with_reducible rfl)))
          simp only [Act.put, List.getElem_toArray, List.getElem_cons_succ, List.getElem_cons_zero, List.setIfInBounds_toArray, List.set_cons_succ, List.set_cons_zero]
          refine wpAnyH_take (i := 3) (v := ?_) rfl (by kernel_rfl) (by kernel_rfl) (by kernel_rfl) (fun _ _ _ h => h) (Or.inl ⟨by rfl, ?_⟩) (by assumption) ?_
          rotate_left
          · (intro w' hSw; (try dsimp only at hSw); obtain ⟨x1, sq, sk⟩ := hSw; go_simp; (try (with_reducible rfl)))
          simp only [Act.put, List.getElem_toArray, List.getElem_cons_succ, List.getElem_cons_zero, List.setIfInBounds_toArray, List.set_cons_succ, List.set_cons_zero]
          refine wpAnyH_take (i := 4) (v := ?_) rfl (by kernel_rfl) (by kernel_rfl) (by kernel_rfl) (fun _ _ _ h => h) (Or.inl ⟨by rfl, ?_⟩) (by assumption) ?_
          rotate_left
          · (intro w' hSw; (try dsimp only at hSw); obtain ⟨x1, sq, sk⟩ := hSw; go_simp; (try (with_reducible rfl)))
          simp only [Act.put, List.getElem_toArray, List.getElem_cons_succ, List.getElem_cons_zero, List.setIfInBounds_toArray, List.set_cons_succ, List.set_cons_zero]
          refine wpAnyH_take (i := 5) (v := ?_) rfl (by kernel_rfl) (by kernel_rfl) (by kernel_rfl) (fun _ _ _ h => h) (Or.inl ⟨by rfl, ?_⟩) (by assumption) ?_
          rotate_left
          · (intro w' hSw; (try dsimp only at hSw); obtain ⟨x1, sq, sk⟩ := hSw; go_simp; (try (with_reducible rfl)))
          simp only [Act.put, List.getElem_toArray, List.getElem_cons_succ, List.getElem_cons_zero, List.setIfInBounds_toArray, List.set_cons_succ, List.set_cons_zero]
          refine wpAnyH_take (i := 6) (v := ?_) rfl (by kernel_rfl) (by kernel_rfl) (by kernel_rfl) (fun _ _ _ h => h) (Or.inl ⟨by rfl, ?_⟩) (by assumption) ?_
          rotate_left
          · (intro w' hSw; (try dsimp only at hSw); obtain ⟨x1, sq, sk⟩ := hSw; go_simp; (try (with_reducible rfl)))
          simp only [Act.put, List.getElem_toArray, List.getElem_cons_succ, List.getElem_cons_zero, List.setIfInBounds_toArray, List.set_cons_succ, List.set_cons_zero]
          refine wpAnyH_ready (rs := [7]) (by kernel_rfl) (by simp) ?_
          refine AllReadyH.cons rfl (fun K hK => ?_) AllReadyH.nil
          go_simp
          (go_at_call 17; refine (HH2.out _ hHeld.2.2).mono ?_; rintro e w3 ⟨rfl, ca3, k3⟩; (try go_simp))
          have HCA3 := Lib.hid ca3
          have K3 := Lib.hid (KX.out.trans k3 (fun _ _ h => h))
          refine hK.out _ _ ?_ (fun hHeld => ?_)
          · (try dsimp only)
            exact ⟨(k3.cell hpxl hxp).trans X1.out, (k3.cell hqxl hqp).trans SQ.out, _, Or.inr rfl, ca3, k3⟩
          clear hK K ca3 k3
          refine wpAnyH_done (by kernel_rfl) ?_ _
          have HF : Hid (hearAll ks S.tail (zeroC V) = hearAll (ks.drop (i + 1)) (S.tail.drop (i + 1)) (hearN 1 W again)) := Lib.hid (by rw [HGO.out, HD.out])
          clear hHeld HH2 HT0 iI iN iZ iT X1 SQ hqxl hpxl
          go_wp2
          go_roundw
          case rel => exact ⟨i + 1, hearN 1 W again, by omega, by go_num, HF.out, HS2.out, HCA3.out, K3.out⟩
          case measure => simp [intOf]; omega
        · replace d0 : wr.cell? ⟨g, i * 2, none⟩ = some (.func (.func 18) #[] #[]) := d0
          replace d1 : wr.cell? ⟨g, i * 2 + 1, none⟩ = some (.func (.func 20) #[] #[]) := d1
          have HHE : Hid (∀ ag wq, WordW wq → CmdAt wq pa ag → Calls Tryd.prog 20 #[.pointer (some ⟨pa, 0, none⟩), .string (ofL W)] wq fun e w' => e = .returned (.tuple #[]) ∧ CmdAt w' pa (hearN 2 W ag) ∧ Keeps (fun q => q = pa) wq w') := HHE
          go_wp2_with fail
          generalize hwX : wr.alloc _ = wX
          have kX : Keeps (fun _ => False) wr wX := by rw [← hwX]; exact (Keeps.refl _ _).alloc _
          have x1 : wX.cell? ⟨wr.heap.size, 1, none⟩ = some (.func (.func 20) #[] #[]) := by rw [← hwX]; simp
          have sq := (kX.cell hqw (fun h => h)).trans s1
          obtain ⟨px, hpx⟩ : ∃ px, px = wr.heap.size := ⟨_, rfl⟩
          rw [← hpx] at x1 ⊢
          have KX := Lib.hid (KR.out.trans (keep_up pa kX) (fun _ _ h => h))
          have HCX := Lib.hid (HCA.out.keep kX (fun h => h))
          have HH2 : Hid (∀ wq, HearT 2 W again pa wX wq → Calls Tryd.prog 20 #[.pointer (some ⟨pa, 0, none⟩), .string (ofL W)] wq fun e w' => e = .returned (.tuple #[]) ∧ CmdAt w' pa (hearN 2 W again) ∧ Keeps (fun q => q = pa) wX w') := Lib.hid fun wq h => by
            obtain ⟨ag, h1, h2, h3⟩ := h
            refine (HHE.out ag wq (HWR.out _ (KX.out.trans h3 (fun _ _ h => h))) h2).mono fun e w' h => ⟨h.1, ?_, h3.trans h.2.2 (fun _ _ h => h)⟩
            rcases h1 with rfl | rfl
            · exact h.2.1
            · have := h.2.1
              rw [hear_twice] at this
              exact this
          have HT0 : HearT 2 W again pa wX wX.drew := ⟨again, Or.inl rfl, HCX.out.keep ((Keeps.refl (fun _ => False) wX).drew) (fun h => h), (Keeps.refl _ _).drew⟩
          have hqp := hqa
          have hxp : px ≠ pa := by have := HCA.out.lt; omega
          have hpxl := cell_ltk x1
          have hqxl := cell_ltk sq
          have X1 := Lib.hid x1
          have SQ := Lib.hid sq
          clear hwX kX hpx d0 d1 s1 HHE
          refine wp_region_held_drew (S := fun w' => w'.cell? ⟨px, 1, none⟩ = some (.func (.func 20) #[] #[]) ∧ w'.cell? ⟨q, 1 + i, none⟩ = some (.string (ofL W)) ∧ HearT 2 W again pa wX w') (by kernel_rfl) (⟨x1, sq, HT0⟩) (fun hHeld => ?_)
          clear x1 sq
          refine wpAnyH_take (i := 0) (v := ?_) rfl (by kernel_rfl) (by kernel_rfl) (by kernel_rfl) (fun _ _ _ h => h) (Or.inl ⟨by rfl, ?_⟩) (by assumption) ?_
          rotate_left
          · (intro w' hSw; (try dsimp only at hSw); obtain ⟨x1, sq, sk⟩ := hSw; go_simp; (try (with_reducible rfl)))
          simp only [Act.put, List.getElem_toArray, List.getElem_cons_succ, List.getElem_cons_zero, List.setIfInBounds_toArray, List.set_cons_succ, List.set_cons_zero]
          refine wpAnyH_take (i := 1) (v := ?_) rfl (by kernel_rfl) (by kernel_rfl) (by kernel_rfl) (fun _ _ _ h => h) (Or.inl ⟨by rfl, ?_⟩) (by assumption) ?_
          rotate_left
          · (intro w' hSw; (try dsimp only at hSw); obtain ⟨x1, sq, sk⟩ := hSw; go_simp; (try (with_reducible rfl)))
          simp only [Act.put, List.getElem_toArray, List.getElem_cons_succ, List.getElem_cons_zero, List.setIfInBounds_toArray, List.set_cons_succ, List.set_cons_zero]
          refine wpAnyH_take (i := 2) (v := ?_) rfl (by kernel_rfl) (by kernel_rfl) (by kernel_rfl) (fun _ _ _ h => h) (Or.inl ⟨by rfl, ?_⟩) (by assumption) ?_
          rotate_left
          · (intro w' hSw; (try dsimp only at hSw); obtain ⟨x1, sq, sk⟩ := hSw; go_simp; (try (with_reducible rfl)))
          simp only [Act.put, List.getElem_toArray, List.getElem_cons_succ, List.getElem_cons_zero, List.setIfInBounds_toArray, List.set_cons_succ, List.set_cons_zero]
          refine wpAnyH_take (i := 3) (v := ?_) rfl (by kernel_rfl) (by kernel_rfl) (by kernel_rfl) (fun _ _ _ h => h) (Or.inl ⟨by rfl, ?_⟩) (by assumption) ?_
          rotate_left
          · (intro w' hSw; (try dsimp only at hSw); obtain ⟨x1, sq, sk⟩ := hSw; go_simp; (try (with_reducible rfl)))
          simp only [Act.put, List.getElem_toArray, List.getElem_cons_succ, List.getElem_cons_zero, List.setIfInBounds_toArray, List.set_cons_succ, List.set_cons_zero]
          refine wpAnyH_take (i := 4) (v := ?_) rfl (by kernel_rfl) (by kernel_rfl) (by kernel_rfl) (fun _ _ _ h => h) (Or.inl ⟨by rfl, ?_⟩) (by assumption) ?_
          rotate_left
          · (intro w' hSw; (try dsimp only at hSw); obtain ⟨x1, sq, sk⟩ := hSw; go_simp; (try (with_reducible rfl)))
          simp only [Act.put, List.getElem_toArray, List.getElem_cons_succ, List.getElem_cons_zero, List.setIfInBounds_toArray, List.set_cons_succ, List.set_cons_zero]
          refine wpAnyH_take (i := 5) (v := ?_) rfl (by kernel_rfl) (by kernel_rfl) (by kernel_rfl) (fun _ _ _ h => h) (Or.inl ⟨by rfl, ?_⟩) (by assumption) ?_
          rotate_left
          · (intro w' hSw; (try dsimp only at hSw); obtain ⟨x1, sq, sk⟩ := hSw; go_simp; (try (with_reducible rfl)))
          simp only [Act.put, List.getElem_toArray, List.getElem_cons_succ, List.getElem_cons_zero, List.setIfInBounds_toArray, List.set_cons_succ, List.set_cons_zero]
          refine wpAnyH_take (i := 6) (v := ?_) rfl (by kernel_rfl) (by kernel_rfl) (by kernel_rfl) (fun _ _ _ h => h) (Or.inl ⟨by rfl, ?_⟩) (by assumption) ?_
          rotate_left
          · (intro w' hSw; (try dsimp only at hSw); obtain ⟨x1, sq, sk⟩ := hSw; go_simp; (try (with_reducible rfl)))
          simp only [Act.put, List.getElem_toArray, List.getElem_cons_succ, List.getElem_cons_zero, List.setIfInBounds_toArray, List.set_cons_succ, List.set_cons_zero]
          refine wpAnyH_ready (rs := [7]) (by kernel_rfl) (by simp) ?_
          refine AllReadyH.cons rfl (fun K hK => ?_) AllReadyH.nil
          go_simp
          (go_at_call 20; refine (HH2.out _ hHeld.2.2).mono ?_; rintro e w3 ⟨rfl, ca3, k3⟩; (try go_simp))
          have HCA3 := Lib.hid ca3
          have K3 := Lib.hid (KX.out.trans k3 (fun _ _ h => h))
          refine hK.out _ _ ?_ (fun hHeld => ?_)
          · (try dsimp only)
            exact ⟨(k3.cell hpxl hxp).trans X1.out, (k3.cell hqxl hqp).trans SQ.out, _, Or.inr rfl, ca3, k3⟩
          clear hK K ca3 k3
          refine wpAnyH_done (by kernel_rfl) ?_ _
          have HF : Hid (hearAll ks S.tail (zeroC V) = hearAll (ks.drop (i + 1)) (S.tail.drop (i + 1)) (hearN 2 W again)) := Lib.hid (by rw [HGO.out, HD.out])
          clear hHeld HH2 HT0 iI iN iZ iT X1 SQ hqxl hpxl
          go_wp2
          go_roundw
          case rel => exact ⟨i + 1, hearN 2 W again, by omega, by go_num, HF.out, HS2.out, HCA3.out, K3.out⟩
          case measure => simp [intOf]; omega
        · replace d0 : wr.cell? ⟨g, i * 2, none⟩ = some (.func (.func 22) #[] #[]) := d0
          replace d1 : wr.cell? ⟨g, i * 2 + 1, none⟩ = some (.func (.func 25) #[] #[]) := d1
          have HHE : Hid (∀ ag wq, WordW wq → CmdAt wq pa ag → Calls Tryd.prog 25 #[.pointer (some ⟨pa, 0, none⟩), .string (ofL W)] wq fun e w' => e = .returned (.tuple #[]) ∧ CmdAt w' pa (hearN 3 W ag) ∧ Keeps (fun q => q = pa) wq w') := HHE
          go_wp2_with fail
          generalize hwX : wr.alloc _ = wX
          have kX : Keeps (fun _ => False) wr wX := by rw [← hwX]; exact (Keeps.refl _ _).alloc _
          have x1 : wX.cell? ⟨wr.heap.size, 1, none⟩ = some (.func (.func 25) #[] #[]) := by rw [← hwX]; simp
          have sq := (kX.cell hqw (fun h => h)).trans s1
          obtain ⟨px, hpx⟩ : ∃ px, px = wr.heap.size := ⟨_, rfl⟩
          rw [← hpx] at x1 ⊢
          have KX := Lib.hid (KR.out.trans (keep_up pa kX) (fun _ _ h => h))
          have HCX := Lib.hid (HCA.out.keep kX (fun h => h))
          have HH2 : Hid (∀ wq, HearT 3 W again pa wX wq → Calls Tryd.prog 25 #[.pointer (some ⟨pa, 0, none⟩), .string (ofL W)] wq fun e w' => e = .returned (.tuple #[]) ∧ CmdAt w' pa (hearN 3 W again) ∧ Keeps (fun q => q = pa) wX w') := Lib.hid fun wq h => by
            obtain ⟨ag, h1, h2, h3⟩ := h
            refine (HHE.out ag wq (HWR.out _ (KX.out.trans h3 (fun _ _ h => h))) h2).mono fun e w' h => ⟨h.1, ?_, h3.trans h.2.2 (fun _ _ h => h)⟩
            rcases h1 with rfl | rfl
            · exact h.2.1
            · have := h.2.1
              rw [hear_twice] at this
              exact this
          have HT0 : HearT 3 W again pa wX wX.drew := ⟨again, Or.inl rfl, HCX.out.keep ((Keeps.refl (fun _ => False) wX).drew) (fun h => h), (Keeps.refl _ _).drew⟩
          have hqp := hqa
          have hxp : px ≠ pa := by have := HCA.out.lt; omega
          have hpxl := cell_ltk x1
          have hqxl := cell_ltk sq
          have X1 := Lib.hid x1
          have SQ := Lib.hid sq
          clear hwX kX hpx d0 d1 s1 HHE
          refine wp_region_held_drew (S := fun w' => w'.cell? ⟨px, 1, none⟩ = some (.func (.func 25) #[] #[]) ∧ w'.cell? ⟨q, 1 + i, none⟩ = some (.string (ofL W)) ∧ HearT 3 W again pa wX w') (by kernel_rfl) (⟨x1, sq, HT0⟩) (fun hHeld => ?_)
          clear x1 sq
          refine wpAnyH_take (i := 0) (v := ?_) rfl (by kernel_rfl) (by kernel_rfl) (by kernel_rfl) (fun _ _ _ h => h) (Or.inl ⟨by rfl, ?_⟩) (by assumption) ?_
          rotate_left
          · (intro w' hSw; (try dsimp only at hSw); obtain ⟨x1, sq, sk⟩ := hSw; go_simp; (try (with_reducible rfl)))
          simp only [Act.put, List.getElem_toArray, List.getElem_cons_succ, List.getElem_cons_zero, List.setIfInBounds_toArray, List.set_cons_succ, List.set_cons_zero]
          refine wpAnyH_take (i := 1) (v := ?_) rfl (by kernel_rfl) (by kernel_rfl) (by kernel_rfl) (fun _ _ _ h => h) (Or.inl ⟨by rfl, ?_⟩) (by assumption) ?_
          rotate_left
          · (intro w' hSw; (try dsimp only at hSw); obtain ⟨x1, sq, sk⟩ := hSw; go_simp; (try (with_reducible rfl)))
          simp only [Act.put, List.getElem_toArray, List.getElem_cons_succ, List.getElem_cons_zero, List.setIfInBounds_toArray, List.set_cons_succ, List.set_cons_zero]
          refine wpAnyH_take (i := 2) (v := ?_) rfl (by kernel_rfl) (by kernel_rfl) (by kernel_rfl) (fun _ _ _ h => h) (Or.inl ⟨by rfl, ?_⟩) (by assumption) ?_
          rotate_left
          · (intro w' hSw; (try dsimp only at hSw); obtain ⟨x1, sq, sk⟩ := hSw; go_simp; (try (with_reducible rfl)))
          simp only [Act.put, List.getElem_toArray, List.getElem_cons_succ, List.getElem_cons_zero, List.setIfInBounds_toArray, List.set_cons_succ, List.set_cons_zero]
          refine wpAnyH_take (i := 3) (v := ?_) rfl (by kernel_rfl) (by kernel_rfl) (by kernel_rfl) (fun _ _ _ h => h) (Or.inl ⟨by rfl, ?_⟩) (by assumption) ?_
          rotate_left
          · (intro w' hSw; (try dsimp only at hSw); obtain ⟨x1, sq, sk⟩ := hSw; go_simp; (try (with_reducible rfl)))
          simp only [Act.put, List.getElem_toArray, List.getElem_cons_succ, List.getElem_cons_zero, List.setIfInBounds_toArray, List.set_cons_succ, List.set_cons_zero]
          refine wpAnyH_take (i := 4) (v := ?_) rfl (by kernel_rfl) (by kernel_rfl) (by kernel_rfl) (fun _ _ _ h => h) (Or.inl ⟨by rfl, ?_⟩) (by assumption) ?_
          rotate_left
          · (intro w' hSw; (try dsimp only at hSw); obtain ⟨x1, sq, sk⟩ := hSw; go_simp; (try (with_reducible rfl)))
          simp only [Act.put, List.getElem_toArray, List.getElem_cons_succ, List.getElem_cons_zero, List.setIfInBounds_toArray, List.set_cons_succ, List.set_cons_zero]
          refine wpAnyH_take (i := 5) (v := ?_) rfl (by kernel_rfl) (by kernel_rfl) (by kernel_rfl) (fun _ _ _ h => h) (Or.inl ⟨by rfl, ?_⟩) (by assumption) ?_
          rotate_left
          · (intro w' hSw; (try dsimp only at hSw); obtain ⟨x1, sq, sk⟩ := hSw; go_simp; (try (with_reducible rfl)))
          simp only [Act.put, List.getElem_toArray, List.getElem_cons_succ, List.getElem_cons_zero, List.setIfInBounds_toArray, List.set_cons_succ, List.set_cons_zero]
          refine wpAnyH_take (i := 6) (v := ?_) rfl (by kernel_rfl) (by kernel_rfl) (by kernel_rfl) (fun _ _ _ h => h) (Or.inl ⟨by rfl, ?_⟩) (by assumption) ?_
          rotate_left
          · (intro w' hSw; (try dsimp only at hSw); obtain ⟨x1, sq, sk⟩ := hSw; go_simp; (try (with_reducible rfl)))
          simp only [Act.put, List.getElem_toArray, List.getElem_cons_succ, List.getElem_cons_zero, List.setIfInBounds_toArray, List.set_cons_succ, List.set_cons_zero]
          refine wpAnyH_ready (rs := [7]) (by kernel_rfl) (by simp) ?_
          refine AllReadyH.cons rfl (fun K hK => ?_) AllReadyH.nil
          go_simp
          (go_at_call 25; refine (HH2.out _ hHeld.2.2).mono ?_; rintro e w3 ⟨rfl, ca3, k3⟩; (try go_simp))
          have HCA3 := Lib.hid ca3
          have K3 := Lib.hid (KX.out.trans k3 (fun _ _ h => h))
          refine hK.out _ _ ?_ (fun hHeld => ?_)
          · (try dsimp only)
            exact ⟨(k3.cell hpxl hxp).trans X1.out, (k3.cell hqxl hqp).trans SQ.out, _, Or.inr rfl, ca3, k3⟩
          clear hK K ca3 k3
          refine wpAnyH_done (by kernel_rfl) ?_ _
          have HF : Hid (hearAll ks S.tail (zeroC V) = hearAll (ks.drop (i + 1)) (S.tail.drop (i + 1)) (hearN 3 W again)) := Lib.hid (by rw [HGO.out, HD.out])
          clear hHeld HH2 HT0 iI iN iZ iT X1 SQ hqxl hpxl
          go_wp2
          go_roundw
          case rel => exact ⟨i + 1, hearN 3 W again, by omega, by go_num, HF.out, HS2.out, HCA3.out, K3.out⟩
          case measure => simp [intOf]; omega
      · obtain rfl : i = n := by omega
        have h3d : decide ((i : Int) < (i : Int)) = false := decide_eq_false (by omega)
        have h3n : ¬ (i : Int) < (i : Int) := by omega
        have HRD2 : Hid (readN l = if lineN again = some l then some again else none) := Lib.hid (by
          have e : hearAll ks S.tail (zeroC V) = again := by
            rw [HGO.out, List.drop_eq_nil_of_le (by rw [← HN.out]; exact Nat.le_refl _)]
            rfl
          rw [HRD.out, e])
        have LC : Hid (Calls Tryd.prog 9 #[.agg #[.string (ofL again.verb), .string (ofL again.a), .string (ofL again.b), .int .i64 again.n, .int .i64 again.v.ty, .int .i64 again.v.n, .string (ofL again.v.s)]] wr fun e w' => LineE again wr e w') := Lib.hid (line_any again HSZ.out wr (HWR.out _ KR.out))
        have hzr := HZR.out wr KR.out
        have hlz := hzr.lt
        have HCR := HCA.out
        have c0 := HCR.c0
        have c1 := HCR.c1
        have c2 := HCR.c2
        have c3 := HCR.c3
        have c4 := HCR.c4
        have c5 := HCR.c5
        have c6 := HCR.c6
        have hl := HCR.lt
        clear HCR hzr HRD
        go_wp2_with fail
        refine LC.out.mono ?_
        rintro e w3 ⟨⟨t, x, rfl, hlx⟩, k3⟩
        have HCA3 := Lib.hid (HCA.out.keep k3 (fun h => h))
        have HZ3 := Lib.hid ((HZR.out wr KR.out).keep k3 (fun h => h))
        have K3 := Lib.hid ((HKW.out wr KR.out).trans k3 (fun _ _ h => h))
        clear k3 LC c0 c1 c2 c3 c4 c5 c6 hl hlz
        cases hln2 : lineN again with
        | none =>
          rw [hln2] at hlx
          simp only at hlx
          obtain ⟨rfl, rfl⟩ := hlx
          have HF : Hid (readN l = none) := Lib.hid (by rw [HRD2.out, hln2]; rfl)
          clear hln2
          have z0 := HZ3.out.c0
          have z1 := HZ3.out.c1
          have z2 := HZ3.out.c2
          have z3 := HZ3.out.c3
          have z4 := HZ3.out.c4
          have z5 := HZ3.out.c5
          have z6 := HZ3.out.c6
          have f0 := HZ3.out.f 0 (by omega)
          have f1 := HZ3.out.f 1 (by omega)
          have f2 := HZ3.out.f 2 (by omega)
          have f3 := HZ3.out.f 3 (by omega)
          have f4 := HZ3.out.f 4 (by omega)
          have f5 := HZ3.out.f 5 (by omega)
          have f6 := HZ3.out.f 6 (by omega)
          have hz := HZ3.out.lt
          go_wp2
          refine bodyPost_ret (v := .tuple #[cmdV (zeroC []), .int .i64 80]) ?_ rfl ?_
          · rw [results_ct rfl]
            go_simp
            rfl
          · exact ⟨⟨zeroC [], 80, rfl, by rw [HF.out]; exact ⟨rfl, rfl⟩⟩, keep7 K3.out _ (Nat.le_of_eq HP2.out.symm) _ _ _ _ _ _ _⟩
        | some l2 =>
          rw [hln2] at hlx
          simp only at hlx
          obtain ⟨rfl, rfl⟩ := hlx
          by_cases hl2 : l2 = l
          · subst hl2
            have HF : Hid (readN l2 = some again) := Lib.hid (by rw [HRD2.out, hln2, if_pos rfl])
            have b1 : ((ofL l2).toList == s.toList) = true := by rw [HSE.out, ofL_beq]; simp
            clear hln2
            have z0 := HZ3.out.c0
            have z1 := HZ3.out.c1
            have z2 := HZ3.out.c2
            have z3 := HZ3.out.c3
            have z4 := HZ3.out.c4
            have z5 := HZ3.out.c5
            have z6 := HZ3.out.c6
            have f0 := HZ3.out.f 0 (by omega)
            have f1 := HZ3.out.f 1 (by omega)
            have f2 := HZ3.out.f 2 (by omega)
            have f3 := HZ3.out.f 3 (by omega)
            have f4 := HZ3.out.f 4 (by omega)
            have f5 := HZ3.out.f 5 (by omega)
            have f6 := HZ3.out.f 6 (by omega)
            have hz := HZ3.out.lt
            have c0 := HCA3.out.c0
            have c1 := HCA3.out.c1
            have c2 := HCA3.out.c2
            have c3 := HCA3.out.c3
            have c4 := HCA3.out.c4
            have c5 := HCA3.out.c5
            have c6 := HCA3.out.c6
            have hl := HCA3.out.lt
            go_wp2
            refine bodyPost_ret (v := .tuple #[cmdV again, .int .i64 0]) ?_ rfl ?_
            · rw [results_ct rfl]
              go_simp
              rfl
            · exact ⟨⟨again, 0, rfl, by rw [HF.out]; exact ⟨rfl, rfl⟩⟩, keep7 K3.out _ (Nat.le_of_eq HP2.out.symm) _ _ _ _ _ _ _⟩
          · have HF : Hid (readN l = none) := Lib.hid (by rw [HRD2.out, hln2, if_neg (fun e => hl2 (Option.some.inj e))])
            have b1 : ((ofL l2).toList == s.toList) = false := by rw [HSE.out, ofL_beq]; simp [hl2]
            clear hln2
            have z0 := HZ3.out.c0
            have z1 := HZ3.out.c1
            have z2 := HZ3.out.c2
            have z3 := HZ3.out.c3
            have z4 := HZ3.out.c4
            have z5 := HZ3.out.c5
            have z6 := HZ3.out.c6
            have f0 := HZ3.out.f 0 (by omega)
            have f1 := HZ3.out.f 1 (by omega)
            have f2 := HZ3.out.f 2 (by omega)
            have f3 := HZ3.out.f 3 (by omega)
            have f4 := HZ3.out.f 4 (by omega)
            have f5 := HZ3.out.f 5 (by omega)
            have f6 := HZ3.out.f 6 (by omega)
            have hz := HZ3.out.lt
            go_wp2
            refine bodyPost_ret (v := .tuple #[cmdV (zeroC []), .int .i64 80]) ?_ rfl ?_
            · rw [results_ct rfl]
              go_simp
              rfl
            · exact ⟨⟨zeroC [], 80, rfl, by rw [HF.out]; exact ⟨rfl, rfl⟩⟩, keep7 K3.out _ (Nat.le_of_eq HP2.out.symm) _ _ _ _ _ _ _⟩
end Go.Proofs.YtoombjbpblighabDoor
