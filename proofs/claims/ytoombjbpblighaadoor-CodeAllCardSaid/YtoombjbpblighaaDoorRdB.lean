/-
  Layer 8: the document's instruction. Written by an AI agent.
-/
import Derived.Test.YtoombjbpblighaaDoorRdA
namespace Go.Proofs.YtoombjbpblighaaDoor
open Go Go.RowKit Go.Shelf
set_option linter.unusedVariables false
set_option linter.unusedSimpArgs false

theorem name_dec (op : Int) : (!(decide (nameN op = []))) = (decide (1 ≤ op) && decide (op ≤ 23)) := by
  by_cases h : 1 ≤ op ∧ op ≤ 23
  · have hne : decide (nameN op = []) = false := by
      refine decide_eq_false fun e => ?_
      have key : ∀ k, k < 23 → namesL.getD k [] ≠ [] := by decide
      unfold nameN at e
      rw [if_pos h] at e
      exact key _ (by omega) e
    rw [hne, decide_eq_true h.1, decide_eq_true h.2]
    rfl
  · have hne : decide (nameN op = []) = true := decide_eq_true (by unfold nameN; rw [if_neg h])
    rw [hne]
    have h : ¬ (1 ≤ op ∧ op ≤ 23) := h
    symm
    simp
    omega

set_option maxRecDepth 100000 in
set_option maxHeartbeats 16000000 in
theorem rins_any (R : Nat) (s : RS) (w : World) (h : Rdr w R s) :
    Calls Tryd.prog 58 #[.pointer (some ⟨R, 0, none⟩)] w fun e w' => e = .returned (.agg #[.int .i64 (insE s).2.o, .int .i64 (insE s).2.a, .int .i64 (insE s).2.b, .string (insE s).2.s]) ∧ Rdr w' R (insE s).1 ∧ Keeps (fun p => p = R) w w' := by
  obtain ⟨B, hBw⟩ : ∃ B, B = w.heap.size := ⟨_, rfl⟩
  have hRB : R < B := by rw [hBw]; exact h.lt
  have H := Lib.hid h
  have HB := Lib.hid hBw
  have hop := h.byte
  obtain ⟨op, hopd⟩ : ∃ op, op = (oneE s).2 := ⟨_, rfl⟩
  obtain ⟨s1, hs1⟩ : ∃ s1, s1 = (oneE s).1 := ⟨_, rfl⟩
  rw [← hopd] at hop
  have OC : Hid (∀ w, Rdr w R s → Calls Tryd.prog 55 #[.pointer (some ⟨R, 0, none⟩)] w fun e w' => e = .returned (.int .i64 op) ∧ Rdr w' R s1 ∧ Keeps (fun p => p = R) w w') := Lib.hid (by rw [hopd, hs1]; exact fun w h => rone_any R s w h)
  obtain ⟨s2, hs2⟩ : ∃ s2, s2 = needE (!(decide (nameN op = []))) s1 := ⟨_, rfl⟩
  have HD : Hid (insE s = if hasN op = 0 then (needE (mayN op 0 0 emptyB) s2, ⟨op, 0, 0, emptyB⟩)
    else if hasN op = 1 then (needE (mayN op (numE s2).2 0 emptyB) (numE s2).1, ⟨op, (numE s2).2, 0, emptyB⟩)
    else if hasN op = 3 then (needE (mayN op (numE s2).2 (numE (numE s2).1).2 emptyB) (numE (numE s2).1).1, ⟨op, (numE s2).2, (numE (numE s2).1).2, emptyB⟩)
    else (needE (mayN op 0 0 (strOfNums (takeE (oneE s2).2.toNat (needE (decide ((oneE s2).2 ≤ 40)) (oneE s2).1)).2)) (takeE (oneE s2).2.toNat (needE (decide ((oneE s2).2 ≤ 40)) (oneE s2).1)).1, ⟨op, 0, 0, strOfNums (takeE (oneE s2).2.toNat (needE (decide ((oneE s2).2 ≤ 40)) (oneE s2).1)).2⟩)) := Lib.hid (by rw [hs2, hs1, hopd]; rfl)
  have NQ : Hid (∀ w b, b = (decide (1 ≤ op) && decide (op ≤ 23)) → Rdr w R s1 → Calls Tryd.prog 56 #[.pointer (some ⟨R, 0, none⟩), .bool b] w fun e w' => e = .returned (.tuple #[]) ∧ Rdr w' R s2 ∧ Keeps (fun p => p = R) w w') := Lib.hid (by rw [hs2, name_dec]; exact fun w b hb h => hb ▸ corrupt_any R _ _ w h)
  have ea : hA op = decide (hasN op = 1 ∨ hasN op = 3) := rfl
  have eb : hB op = decide (hasN op = 3) := rfl
  have es : hS op = decide (hasN op = 4) := rfl
  have AC : Hid (∀ w, Calls Tryd.prog 51 #[.int .i64 op] w fun e w' => e = .returned (.bool (hA op)) ∧ Keeps (fun _ => False) w w') := fun w => hasA_any op w
  have BC : Hid (∀ w, Calls Tryd.prog 52 #[.int .i64 op] w fun e w' => e = .returned (.bool (hB op)) ∧ w = w') := fun w => hasB_any op w
  have SC : Hid (∀ w, Calls Tryd.prog 53 #[.int .i64 op] w fun e w' => e = .returned (.bool (hS op)) ∧ w = w') := fun w => hasS_any op w
  have hfour := has_four op
  obtain ⟨hv, hhv⟩ : ∃ hv, hv = hasN op := ⟨_, rfl⟩
  rw [← hhv] at hfour HD ea eb es
  rw [ea] at AC
  rw [eb] at BC
  rw [es] at SC
  clear hopd hs1 hs2 h hBw hhv ea eb es
  go_enter Tryd.func58, Tryd.ntmps58
  go_wp2_with fail
  have Z0 := Cells4.alloc w 0 0 0 emptyB
  have kz : Keeps (fun _ => False) w (w.alloc (.cells #[.int .i64 0, .int .i64 0, .int .i64 0, .string emptyB] 52)) := (Keeps.refl _ _).alloc _
  change Calls _ _ _ (w.alloc (.cells #[.int .i64 0, .int .i64 0, .int .i64 0, .string emptyB] 52)) _
  generalize w.alloc _ = wz at Z0 kz ⊢
  rw [← HB.out] at Z0 ⊢
  refine (OC.out wz (H.out.keep kz)).mono ?_
  rintro e w1 ⟨rfl, r1, k1⟩
  have Z1 := Z0.keep k1 (by omega)
  obtain ⟨PX, hPX⟩ : ∃ PX, PX = w1.heap.size := ⟨_, rfl⟩
  have hBP : B < PX := by rw [hPX]; exact Z1.lt
  have K1 : Hid (Keeps (fun p => p = R) w w1) := Lib.hid ((kz.mono (fun _ _ h => h.elim)).trans k1 (fun _ _ h => h))
  have HP := Lib.hid hPX
  have HZ1 := Lib.hid Z1
  have HR1 := Lib.hid r1
  have hXR : ¬ PX = R := by omega
  have hBR : ¬ B = R := by omega
  clear Z0 kz k1 OC H Z1 r1 hPX
  go_upto_region 2 with fail
  have X0 := Cells4.alloc w1 op 0 0 emptyB
  have kx : Keeps (fun _ => False) w1 (w1.alloc (.cells #[.int .i64 op, .int .i64 0, .int .i64 0, .string emptyB] 52)) := (Keeps.refl _ _).alloc _
  change Code.wp _ _ _ _ (w1.alloc (.cells #[.int .i64 op, .int .i64 0, .int .i64 0, .string emptyB] 52))
  generalize w1.alloc _ = w2 at X0 kx ⊢
  rw [← HP.out] at X0 ⊢
  have HZ2 := Lib.hid (HZ1.out.keep kx (fun h => h))
  have HR2 := Lib.hid (HR1.out.keep kx)
  have K2 : Hid (Keeps (fun p => p = R) w w2) := Lib.hid (K1.out.trans (kx.mono (fun _ _ h => h.elim)) (fun _ _ h => h))
  have X2 := Lib.hid X0
  obtain ⟨c0, c1, c2, c3, f0, f1, f2, f3⟩ := X0
  clear kx HZ1 HR1 K1
  go_cut [3] from 9 to 18 (fun s3 wx => s3 = .pointer (some ⟨PX, 0, none⟩) ∧ Cells4 wx PX op 0 0 emptyB ∧ Cells4 wx B 0 0 0 emptyB ∧ Rdr wx R s2 ∧ Keeps (fun p => p = R) w wx)
  case first =>
    by_cases g1 : 1 ≤ op
    · have d1 : decide (1 ≤ op) = true := decide_eq_true g1
      by_cases g2 : op ≤ 23
      · have d2 : decide (op ≤ 23) = true := decide_eq_true g2
        have NX := Lib.hid (NQ.out w2 true (by rw [d1, d2]; rfl) HR2.out)
        go_wp2_with fail
        refine NX.out.mono ?_
        rintro e w4 ⟨rfl, r4, k4⟩
        have X4 := Lib.hid (X2.out.keep k4 hXR)
        have HZ4 := Lib.hid (HZ2.out.keep k4 hBR)
        have HR4 := Lib.hid r4
        have K4 := Lib.hid (K2.out.trans k4 (fun _ _ h => h))
        clear c0 c1 c2 c3 f0 f1 f2 f3 k4 r4 NX
        go_wp2
        go_meet
        exact ⟨rfl, X4.out, HZ4.out, HR4.out, K4.out⟩
      · have d2 : decide (op ≤ 23) = false := decide_eq_false g2
        have NX := Lib.hid (NQ.out w2 false (by rw [d1, d2]; rfl) HR2.out)
        go_wp2_with fail
        refine NX.out.mono ?_
        rintro e w4 ⟨rfl, r4, k4⟩
        have X4 := Lib.hid (X2.out.keep k4 hXR)
        have HZ4 := Lib.hid (HZ2.out.keep k4 hBR)
        have HR4 := Lib.hid r4
        have K4 := Lib.hid (K2.out.trans k4 (fun _ _ h => h))
        clear c0 c1 c2 c3 f0 f1 f2 f3 k4 r4 NX
        go_wp2
        go_meet
        exact ⟨rfl, X4.out, HZ4.out, HR4.out, K4.out⟩
    · have d1 : decide (1 ≤ op) = false := decide_eq_false g1
      have NX := Lib.hid (NQ.out w2 false (by rw [d1]; rfl) HR2.out)
      go_wp2_with fail
      refine NX.out.mono ?_
      rintro e w4 ⟨rfl, r4, k4⟩
      have X4 := Lib.hid (X2.out.keep k4 hXR)
      have HZ4 := Lib.hid (HZ2.out.keep k4 hBR)
      have HR4 := Lib.hid r4
      have K4 := Lib.hid (K2.out.trans k4 (fun _ _ h => h))
      clear c0 c1 c2 c3 f0 f1 f2 f3 k4 r4 NX
      go_wp2
      go_meet
      exact ⟨rfl, X4.out, HZ4.out, HR4.out, K4.out⟩
  case rest =>
    obtain ⟨rfl, x4, z4, r4, k4⟩ := hcut
    have X4 := Lib.hid x4
    have HZ4 := Lib.hid z4
    have HR4 := Lib.hid r4
    have K4 := Lib.hid k4
    clear c0 c1 c2 c3 f0 f1 f2 f3 x4 z4 r4 k4 X2 HZ2 HR2 K2 NQ
    obtain ⟨c0, c1, c2, c3, f0, f1, f2, f3⟩ := X4.out
    go_wp2_with fail
    refine (AC.out _).mono ?_
    rintro e w5 ⟨rfl, k5⟩
    have X5 := Lib.hid (X4.out.keep k5 (fun h => h))
    have HZ5 := Lib.hid (HZ4.out.keep k5 (fun h => h))
    have HR5 := Lib.hid (HR4.out.keep k5)
    have K5 := Lib.hid (K4.out.trans (k5.mono (fun _ _ h => h.elim)) (fun _ _ h => h))
    clear c0 c1 c2 c3 f0 f1 f2 f3 k5 AC X4 HZ4 K4 HR4
    obtain ⟨c0, c1, c2, c3, f0, f1, f2, f3⟩ := X5.out
    rcases hfour with rfl | rfl | rfl | rfl
    · have da : decide (((0 : Int) = 1) ∨ ((0 : Int) = 3)) = false := by decide
      have db : decide ((0 : Int) = 3) = false := by decide
      have ds : decide ((0 : Int) = 4) = false := by decide
      rw [db] at BC
      rw [ds] at SC
      rw [da]
      clear da db ds
      have MC := Lib.hid (rmay_any op (0) (0) (emptyB) w5)
      go_wp2_with (first | (go_at_call 52; refine (BC.out _).mono ?_; rintro e w' ⟨rfl, rfl⟩) | (go_at_call 53; refine (SC.out _).mono ?_; rintro e w' ⟨rfl, rfl⟩))
      refine MC.out.mono ?_
      rintro e w6 ⟨rfl, k6⟩
      have X6 := Lib.hid (X5.out.keep k6 (fun h => h))
      have HZ6 := Lib.hid (HZ5.out.keep k6 (fun h => h))
      have HR6 := Lib.hid (HR5.out.keep k6)
      have K6 := Lib.hid (K5.out.trans (k6.mono (fun _ _ h => h.elim)) (fun _ _ h => h))
      clear c0 c1 c2 c3 f0 f1 f2 f3 k6 MC X5 HZ5 K5 HR5
      obtain ⟨c0, c1, c2, c3, f0, f1, f2, f3⟩ := X6.out
      have NE := Lib.hid (corrupt_any R (mayN op (0) (0) (emptyB)) (s2) w6 HR6.out)
      go_wp2_with (first | (go_at_call 52; refine (BC.out _).mono ?_; rintro e w' ⟨rfl, rfl⟩) | (go_at_call 53; refine (SC.out _).mono ?_; rintro e w' ⟨rfl, rfl⟩))
      refine NE.out.mono ?_
      rintro e w7 ⟨rfl, r7, k7⟩
      have X7 := Lib.hid (X6.out.keep k7 hXR)
      have HZ7 := Lib.hid (HZ6.out.keep k7 hBR)
      have HR7 := Lib.hid r7
      have K7 := Lib.hid (K6.out.trans k7 (fun _ _ h => h))
      clear c0 c1 c2 c3 f0 f1 f2 f3 k7 r7 NE X6 HZ6 K6 HR6
      obtain ⟨c0, c1, c2, c3, f0, f1, f2, f3⟩ := X7.out
      obtain ⟨z0, z1, z2, z3, g0, g1, g2, g3⟩ := HZ7.out
      go_wp2
      (try simp only [Exit.inBlock, Exit.then])
      refine bodyPost_ret (v := .agg #[.int .i64 op, .int .i64 (0), .int .i64 (0), .string (emptyB)]) ?_ rfl ?_
      · rw [results_cell1 rfl]
        go_simp
      have E := HD.out
      skip
      simp only [reduceIte, show ¬ False from id] at E
      rw [E]
      have hp : ∀ i : Nat, (⟨B, i, none⟩ : Addr).block < w.heap.size → False := fun i h => by have h : B < w.heap.size := h; have := HB.out; omega
      exact ⟨rfl, (((HR7.out.set (i := 0) hRB _).set (i := 1) hRB _).set (i := 2) hRB _).set (i := 3) hRB _, (((K7.out.setCell (p := ⟨B, 0, none⟩) (fun h => (hp 0 h).elim) _).setCell (p := ⟨B, 1, none⟩) (fun h => (hp 1 h).elim) _).setCell (p := ⟨B, 2, none⟩) (fun h => (hp 2 h).elim) _).setCell (p := ⟨B, 3, none⟩) (fun h => (hp 3 h).elim) _⟩
    · have da : decide (((1 : Int) = 1) ∨ ((1 : Int) = 3)) = true := by decide
      have db : decide ((1 : Int) = 3) = false := by decide
      have ds : decide ((1 : Int) = 4) = false := by decide
      rw [db] at BC
      rw [ds] at SC
      rw [da]
      clear da db ds
      have NA := rnumb_any R (s2) w5 HR5.out
      obtain ⟨y1, hy1⟩ : ∃ y, y = (numE (s2)).2 := ⟨_, rfl⟩
      rw [← hy1] at NA
      have HY1 := Lib.hid hy1
      have NA := Lib.hid NA
      clear hy1
      go_wp2_with (first | (go_at_call 52; refine (BC.out _).mono ?_; rintro e w' ⟨rfl, rfl⟩) | (go_at_call 53; refine (SC.out _).mono ?_; rintro e w' ⟨rfl, rfl⟩))
      refine NA.out.mono ?_
      rintro e w6 ⟨rfl, r6, k6⟩
      have X6 := Lib.hid (X5.out.keep k6 hXR)
      have HZ6 := Lib.hid (HZ5.out.keep k6 hBR)
      have HR6 := Lib.hid r6
      have K6 := Lib.hid (K5.out.trans k6 (fun _ _ h => h))
      clear c0 c1 c2 c3 f0 f1 f2 f3 k6 r6 NA X5 HZ5 K5 HR5
      obtain ⟨c0, c1, c2, c3, f0, f1, f2, f3⟩ := X6.out
      go_upto_region 5 with fail
      have X7 := Lib.hid (X6.out.set1 y1)
      have HZ7 := Lib.hid (HZ6.out.keep ((Keeps.refl (fun q => q = PX) w6).setCell (p := ⟨PX, 1, none⟩) (fun _ => rfl) (.int .i64 y1)) (by omega))
      have HR7 := Lib.hid (HR6.out.set (p := PX) (i := 1) (by omega) (.int .i64 y1))
      have K7 := Lib.hid (K6.out.setCell (p := ⟨PX, 1, none⟩) (fun h => by have h : PX < w.heap.size := h; have := HB.out; omega) (.int .i64 y1))
      clear c0 c1 c2 c3 f0 f1 f2 f3 X6 HZ6 K6 HR6
      generalize hw7 : w6.setCell _ _ = w7
      rw [hw7] at X7 HZ7 HR7 K7
      clear hw7
      obtain ⟨c0, c1, c2, c3, f0, f1, f2, f3⟩ := X7.out
      have MC := Lib.hid (rmay_any op (y1) (0) (emptyB) w7)
      go_wp2_with (first | (go_at_call 52; refine (BC.out _).mono ?_; rintro e w' ⟨rfl, rfl⟩) | (go_at_call 53; refine (SC.out _).mono ?_; rintro e w' ⟨rfl, rfl⟩))
      refine MC.out.mono ?_
      rintro e w8 ⟨rfl, k8⟩
      have X8 := Lib.hid (X7.out.keep k8 (fun h => h))
      have HZ8 := Lib.hid (HZ7.out.keep k8 (fun h => h))
      have HR8 := Lib.hid (HR7.out.keep k8)
      have K8 := Lib.hid (K7.out.trans (k8.mono (fun _ _ h => h.elim)) (fun _ _ h => h))
      clear c0 c1 c2 c3 f0 f1 f2 f3 k8 MC X7 HZ7 K7 HR7
      obtain ⟨c0, c1, c2, c3, f0, f1, f2, f3⟩ := X8.out
      have NE := Lib.hid (corrupt_any R (mayN op (y1) (0) (emptyB)) ((numE s2).1) w8 HR8.out)
      go_wp2_with (first | (go_at_call 52; refine (BC.out _).mono ?_; rintro e w' ⟨rfl, rfl⟩) | (go_at_call 53; refine (SC.out _).mono ?_; rintro e w' ⟨rfl, rfl⟩))
      refine NE.out.mono ?_
      rintro e w9 ⟨rfl, r9, k9⟩
      have X9 := Lib.hid (X8.out.keep k9 hXR)
      have HZ9 := Lib.hid (HZ8.out.keep k9 hBR)
      have HR9 := Lib.hid r9
      have K9 := Lib.hid (K8.out.trans k9 (fun _ _ h => h))
      clear c0 c1 c2 c3 f0 f1 f2 f3 k9 r9 NE X8 HZ8 K8 HR8
      obtain ⟨c0, c1, c2, c3, f0, f1, f2, f3⟩ := X9.out
      obtain ⟨z0, z1, z2, z3, g0, g1, g2, g3⟩ := HZ9.out
      go_wp2
      (try simp only [Exit.inBlock, Exit.then])
      refine bodyPost_ret (v := .agg #[.int .i64 op, .int .i64 (y1), .int .i64 (0), .string (emptyB)]) ?_ rfl ?_
      · rw [results_cell1 rfl]
        go_simp
      have E := HD.out
      rw [← HY1.out] at E
      simp only [reduceIte, show ¬ (1 : Int) = 0 by decide] at E
      rw [E]
      have hp : ∀ i : Nat, (⟨B, i, none⟩ : Addr).block < w.heap.size → False := fun i h => by have h : B < w.heap.size := h; have := HB.out; omega
      exact ⟨rfl, (((HR9.out.set (i := 0) hRB _).set (i := 1) hRB _).set (i := 2) hRB _).set (i := 3) hRB _, (((K9.out.setCell (p := ⟨B, 0, none⟩) (fun h => (hp 0 h).elim) _).setCell (p := ⟨B, 1, none⟩) (fun h => (hp 1 h).elim) _).setCell (p := ⟨B, 2, none⟩) (fun h => (hp 2 h).elim) _).setCell (p := ⟨B, 3, none⟩) (fun h => (hp 3 h).elim) _⟩
    · have da : decide (((3 : Int) = 1) ∨ ((3 : Int) = 3)) = true := by decide
      have db : decide ((3 : Int) = 3) = true := by decide
      have ds : decide ((3 : Int) = 4) = false := by decide
      rw [db] at BC
      rw [ds] at SC
      rw [da]
      clear da db ds
      have NA := rnumb_any R (s2) w5 HR5.out
      obtain ⟨y1, hy1⟩ : ∃ y, y = (numE (s2)).2 := ⟨_, rfl⟩
      rw [← hy1] at NA
      have HY1 := Lib.hid hy1
      have NA := Lib.hid NA
      clear hy1
      go_wp2_with (first | (go_at_call 52; refine (BC.out _).mono ?_; rintro e w' ⟨rfl, rfl⟩) | (go_at_call 53; refine (SC.out _).mono ?_; rintro e w' ⟨rfl, rfl⟩))
      refine NA.out.mono ?_
      rintro e w6 ⟨rfl, r6, k6⟩
      have X6 := Lib.hid (X5.out.keep k6 hXR)
      have HZ6 := Lib.hid (HZ5.out.keep k6 hBR)
      have HR6 := Lib.hid r6
      have K6 := Lib.hid (K5.out.trans k6 (fun _ _ h => h))
      clear c0 c1 c2 c3 f0 f1 f2 f3 k6 r6 NA X5 HZ5 K5 HR5
      obtain ⟨c0, c1, c2, c3, f0, f1, f2, f3⟩ := X6.out
      go_upto_region 5 with fail
      have X7 := Lib.hid (X6.out.set1 y1)
      have HZ7 := Lib.hid (HZ6.out.keep ((Keeps.refl (fun q => q = PX) w6).setCell (p := ⟨PX, 1, none⟩) (fun _ => rfl) (.int .i64 y1)) (by omega))
      have HR7 := Lib.hid (HR6.out.set (p := PX) (i := 1) (by omega) (.int .i64 y1))
      have K7 := Lib.hid (K6.out.setCell (p := ⟨PX, 1, none⟩) (fun h => by have h : PX < w.heap.size := h; have := HB.out; omega) (.int .i64 y1))
      clear c0 c1 c2 c3 f0 f1 f2 f3 X6 HZ6 K6 HR6
      generalize hw7 : w6.setCell _ _ = w7
      rw [hw7] at X7 HZ7 HR7 K7
      clear hw7
      obtain ⟨c0, c1, c2, c3, f0, f1, f2, f3⟩ := X7.out
      have NA := rnumb_any R ((numE s2).1) w7 HR7.out
      obtain ⟨y2, hy2⟩ : ∃ y, y = (numE ((numE s2).1)).2 := ⟨_, rfl⟩
      rw [← hy2] at NA
      have HY2 := Lib.hid hy2
      have NA := Lib.hid NA
      clear hy2
      go_wp2_with (first | (go_at_call 52; refine (BC.out _).mono ?_; rintro e w' ⟨rfl, rfl⟩) | (go_at_call 53; refine (SC.out _).mono ?_; rintro e w' ⟨rfl, rfl⟩))
      refine NA.out.mono ?_
      rintro e w8 ⟨rfl, r8, k8⟩
      have X8 := Lib.hid (X7.out.keep k8 hXR)
      have HZ8 := Lib.hid (HZ7.out.keep k8 hBR)
      have HR8 := Lib.hid r8
      have K8 := Lib.hid (K7.out.trans k8 (fun _ _ h => h))
      clear c0 c1 c2 c3 f0 f1 f2 f3 k8 r8 NA X7 HZ7 K7 HR7
      obtain ⟨c0, c1, c2, c3, f0, f1, f2, f3⟩ := X8.out
      go_upto_region 7 with fail
      have X9 := Lib.hid (X8.out.set2 y2)
      have HZ9 := Lib.hid (HZ8.out.keep ((Keeps.refl (fun q => q = PX) w8).setCell (p := ⟨PX, 2, none⟩) (fun _ => rfl) (.int .i64 y2)) (by omega))
      have HR9 := Lib.hid (HR8.out.set (p := PX) (i := 2) (by omega) (.int .i64 y2))
      have K9 := Lib.hid (K8.out.setCell (p := ⟨PX, 2, none⟩) (fun h => by have h : PX < w.heap.size := h; have := HB.out; omega) (.int .i64 y2))
      clear c0 c1 c2 c3 f0 f1 f2 f3 X8 HZ8 K8 HR8
      generalize hw9 : w8.setCell _ _ = w9
      rw [hw9] at X9 HZ9 HR9 K9
      clear hw9
      obtain ⟨c0, c1, c2, c3, f0, f1, f2, f3⟩ := X9.out
      have MC := Lib.hid (rmay_any op (y1) (y2) (emptyB) w9)
      go_wp2_with (first | (go_at_call 52; refine (BC.out _).mono ?_; rintro e w' ⟨rfl, rfl⟩) | (go_at_call 53; refine (SC.out _).mono ?_; rintro e w' ⟨rfl, rfl⟩))
      refine MC.out.mono ?_
      rintro e w10 ⟨rfl, k10⟩
      have X10 := Lib.hid (X9.out.keep k10 (fun h => h))
      have HZ10 := Lib.hid (HZ9.out.keep k10 (fun h => h))
      have HR10 := Lib.hid (HR9.out.keep k10)
      have K10 := Lib.hid (K9.out.trans (k10.mono (fun _ _ h => h.elim)) (fun _ _ h => h))
      clear c0 c1 c2 c3 f0 f1 f2 f3 k10 MC X9 HZ9 K9 HR9
      obtain ⟨c0, c1, c2, c3, f0, f1, f2, f3⟩ := X10.out
      have NE := Lib.hid (corrupt_any R (mayN op (y1) (y2) (emptyB)) ((numE (numE s2).1).1) w10 HR10.out)
      go_wp2_with (first | (go_at_call 52; refine (BC.out _).mono ?_; rintro e w' ⟨rfl, rfl⟩) | (go_at_call 53; refine (SC.out _).mono ?_; rintro e w' ⟨rfl, rfl⟩))
      refine NE.out.mono ?_
      rintro e w11 ⟨rfl, r11, k11⟩
      have X11 := Lib.hid (X10.out.keep k11 hXR)
      have HZ11 := Lib.hid (HZ10.out.keep k11 hBR)
      have HR11 := Lib.hid r11
      have K11 := Lib.hid (K10.out.trans k11 (fun _ _ h => h))
      clear c0 c1 c2 c3 f0 f1 f2 f3 k11 r11 NE X10 HZ10 K10 HR10
      obtain ⟨c0, c1, c2, c3, f0, f1, f2, f3⟩ := X11.out
      obtain ⟨z0, z1, z2, z3, g0, g1, g2, g3⟩ := HZ11.out
      go_wp2
      (try simp only [Exit.inBlock, Exit.then])
      refine bodyPost_ret (v := .agg #[.int .i64 op, .int .i64 (y1), .int .i64 (y2), .string (emptyB)]) ?_ rfl ?_
      · rw [results_cell1 rfl]
        go_simp
      have E := HD.out
      rw [← HY1.out, ← HY2.out] at E
      simp only [reduceIte, show ¬ (3 : Int) = 0 by decide, show ¬ (3 : Int) = 1 by decide] at E
      rw [E]
      have hp : ∀ i : Nat, (⟨B, i, none⟩ : Addr).block < w.heap.size → False := fun i h => by have h : B < w.heap.size := h; have := HB.out; omega
      exact ⟨rfl, (((HR11.out.set (i := 0) hRB _).set (i := 1) hRB _).set (i := 2) hRB _).set (i := 3) hRB _, (((K11.out.setCell (p := ⟨B, 0, none⟩) (fun h => (hp 0 h).elim) _).setCell (p := ⟨B, 1, none⟩) (fun h => (hp 1 h).elim) _).setCell (p := ⟨B, 2, none⟩) (fun h => (hp 2 h).elim) _).setCell (p := ⟨B, 3, none⟩) (fun h => (hp 3 h).elim) _⟩
    · have da : decide (((4 : Int) = 1) ∨ ((4 : Int) = 3)) = false := by decide
      have db : decide ((4 : Int) = 3) = false := by decide
      have ds : decide ((4 : Int) = 4) = true := by decide
      rw [db] at BC
      rw [ds] at SC
      rw [da]
      clear da db ds
      have NA := rone_any R s2 w5 HR5.out
      have hx := HR5.out.byte
      obtain ⟨x, hxd⟩ : ∃ x, x = (oneE s2).2 := ⟨_, rfl⟩
      rw [← hxd] at NA hx
      have HX := Lib.hid hxd
      have NA := Lib.hid NA
      clear hxd
      go_wp2_with (first | (go_at_call 52; refine (BC.out _).mono ?_; rintro e w' ⟨rfl, rfl⟩) | (go_at_call 53; refine (SC.out _).mono ?_; rintro e w' ⟨rfl, rfl⟩))
      refine NA.out.mono ?_
      rintro e w6 ⟨rfl, r6, k6⟩
      have X6 := Lib.hid (X5.out.keep k6 hXR)
      have HZ6 := Lib.hid (HZ5.out.keep k6 hBR)
      have HR6 := Lib.hid r6
      have K6 := Lib.hid (K5.out.trans k6 (fun _ _ h => h))
      clear c0 c1 c2 c3 f0 f1 f2 f3 k6 r6 NA X5 HZ5 K5 HR5
      obtain ⟨c0, c1, c2, c3, f0, f1, f2, f3⟩ := X6.out
      have NB := Lib.hid (corrupt_any R (decide (x ≤ 40)) (oneE s2).1 w6 HR6.out)
      go_wp2_with (first | (go_at_call 52; refine (BC.out _).mono ?_; rintro e w' ⟨rfl, rfl⟩) | (go_at_call 53; refine (SC.out _).mono ?_; rintro e w' ⟨rfl, rfl⟩))
      refine NB.out.mono ?_
      rintro e w7 ⟨rfl, r7, k7⟩
      have X7 := Lib.hid (X6.out.keep k7 hXR)
      have HZ7 := Lib.hid (HZ6.out.keep k7 hBR)
      have HR7 := Lib.hid r7
      have K7 := Lib.hid (K6.out.trans k7 (fun _ _ h => h))
      clear c0 c1 c2 c3 f0 f1 f2 f3 k7 r7 NB X6 HZ6 K6 HR6
      obtain ⟨c0, c1, c2, c3, f0, f1, f2, f3⟩ := X7.out
      have hxn : ((x.toNat : Nat) : Int) = x := by omega
      have NC := some_any R x.toNat (needE (decide (x ≤ 40)) (oneE s2).1) (by omega) w7 HR7.out
      rw [hxn] at NC
      obtain ⟨L5, hL5⟩ : ∃ L, L = (takeE x.toNat (needE (decide (x ≤ 40)) (oneE s2).1)).2 := ⟨_, rfl⟩
      obtain ⟨s5, hs5⟩ : ∃ s, s = (takeE x.toNat (needE (decide (x ≤ 40)) (oneE s2).1)).1 := ⟨_, rfl⟩
      rw [← hL5, ← hs5] at NC
      have HL5 := Lib.hid hL5
      have HS5 := Lib.hid hs5
      clear hL5 hs5 hxn
      have NC := Lib.hid NC
      go_wp2_with (first | (go_at_call 52; refine (BC.out _).mono ?_; rintro e w' ⟨rfl, rfl⟩) | (go_at_call 53; refine (SC.out _).mono ?_; rintro e w' ⟨rfl, rfl⟩))
      refine NC.out.mono ?_
      rintro e w8 ⟨⟨v, rfl, A5, c5, rfl, hx5⟩, r8, k8⟩
      have X8 := Lib.hid (X7.out.keep k8 hXR)
      have HZ8 := Lib.hid (HZ7.out.keep k8 hBR)
      have HR8 := Lib.hid r8
      have K8 := Lib.hid (K7.out.trans k8 (fun _ _ h => h))
      clear c0 c1 c2 c3 f0 f1 f2 f3 k8 r8 NC X7 HZ7 K7 HR7
      obtain ⟨c0, c1, c2, c3, f0, f1, f2, f3⟩ := X8.out
      have hcv : (convert 42 9 (.slice A5 L5.length c5)).run Tryd.prog w8 = .ok (.string (strOfNums L5)) w8 := conv_any w8 R A5 c5 L5 hx5
      obtain ⟨n5, hn5⟩ : ∃ n, n = L5.length := ⟨_, rfl⟩
      rw [← hn5] at hcv ⊢
      clear hx5 hn5
      go_upto_region 11 with fail
      have X9 := Lib.hid (X8.out.set3 (strOfNums L5))
      have HZ9 := Lib.hid (HZ8.out.keep ((Keeps.refl (fun q => q = PX) w8).setCell (p := ⟨PX, 3, none⟩) (fun _ => rfl) (.string (strOfNums L5))) (by omega))
      have HR9 := Lib.hid (HR8.out.set (p := PX) (i := 3) (by omega) (.string (strOfNums L5)))
      have K9 := Lib.hid (K8.out.setCell (p := ⟨PX, 3, none⟩) (fun h => by have h : PX < w.heap.size := h; have := HB.out; omega) (.string (strOfNums L5)))
      clear c0 c1 c2 c3 f0 f1 f2 f3 X8 HZ8 K8 HR8
      generalize hw9 : w8.setCell _ _ = w9
      rw [hw9] at X9 HZ9 HR9 K9
      clear hw9
      obtain ⟨c0, c1, c2, c3, f0, f1, f2, f3⟩ := X9.out
      have MC := Lib.hid (rmay_any op (0) (0) (strOfNums L5) w9)
      go_wp2_with (first | (go_at_call 52; refine (BC.out _).mono ?_; rintro e w' ⟨rfl, rfl⟩) | (go_at_call 53; refine (SC.out _).mono ?_; rintro e w' ⟨rfl, rfl⟩))
      refine MC.out.mono ?_
      rintro e w10 ⟨rfl, k10⟩
      have X10 := Lib.hid (X9.out.keep k10 (fun h => h))
      have HZ10 := Lib.hid (HZ9.out.keep k10 (fun h => h))
      have HR10 := Lib.hid (HR9.out.keep k10)
      have K10 := Lib.hid (K9.out.trans (k10.mono (fun _ _ h => h.elim)) (fun _ _ h => h))
      clear c0 c1 c2 c3 f0 f1 f2 f3 k10 MC X9 HZ9 K9 HR9
      obtain ⟨c0, c1, c2, c3, f0, f1, f2, f3⟩ := X10.out
      have NE := Lib.hid (corrupt_any R (mayN op (0) (0) (strOfNums L5)) (s5) w10 HR10.out)
      go_wp2_with (first | (go_at_call 52; refine (BC.out _).mono ?_; rintro e w' ⟨rfl, rfl⟩) | (go_at_call 53; refine (SC.out _).mono ?_; rintro e w' ⟨rfl, rfl⟩))
      refine NE.out.mono ?_
      rintro e w11 ⟨rfl, r11, k11⟩
      have X11 := Lib.hid (X10.out.keep k11 hXR)
      have HZ11 := Lib.hid (HZ10.out.keep k11 hBR)
      have HR11 := Lib.hid r11
      have K11 := Lib.hid (K10.out.trans k11 (fun _ _ h => h))
      clear c0 c1 c2 c3 f0 f1 f2 f3 k11 r11 NE X10 HZ10 K10 HR10
      obtain ⟨c0, c1, c2, c3, f0, f1, f2, f3⟩ := X11.out
      obtain ⟨z0, z1, z2, z3, g0, g1, g2, g3⟩ := HZ11.out
      go_wp2
      (try simp only [Exit.inBlock, Exit.then])
      refine bodyPost_ret (v := .agg #[.int .i64 op, .int .i64 (0), .int .i64 (0), .string (strOfNums L5)]) ?_ rfl ?_
      · rw [results_cell1 rfl]
        go_simp
      have E := HD.out
      rw [← HX.out, ← HL5.out, ← HS5.out] at E
      simp only [reduceIte, show ¬ (4 : Int) = 0 by decide, show ¬ (4 : Int) = 1 by decide, show ¬ (4 : Int) = 3 by decide] at E
      rw [E]
      have hp : ∀ i : Nat, (⟨B, i, none⟩ : Addr).block < w.heap.size → False := fun i h => by have h : B < w.heap.size := h; have := HB.out; omega
      exact ⟨rfl, (((HR11.out.set (i := 0) hRB _).set (i := 1) hRB _).set (i := 2) hRB _).set (i := 3) hRB _, (((K11.out.setCell (p := ⟨B, 0, none⟩) (fun h => (hp 0 h).elim) _).setCell (p := ⟨B, 1, none⟩) (fun h => (hp 1 h).elim) _).setCell (p := ⟨B, 2, none⟩) (fun h => (hp 2 h).elim) _).setCell (p := ⟨B, 3, none⟩) (fun h => (hp 3 h).elim) _⟩
end Go.Proofs.YtoombjbpblighaaDoor
