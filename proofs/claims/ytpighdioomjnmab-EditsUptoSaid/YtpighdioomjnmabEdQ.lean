/-
  Layer 16: the walk of EditsUpto. Written by an AI agent.
-/
import Derived.Test.YtpighdioomjnmabEdK
import Derived.Test.YtpighdioomjnmabEdG
import Derived.Test.YtpighdioomjnmabEdP
import Derived.Deep.RegionHeld3
import Derived.BigQuiet
namespace Go.Proofs.Ytpighdioomjnmab
open Go.RowKit Go.Shelf
set_option linter.unusedVariables false
set_option linter.unusedSimpArgs false

set_option maxRecDepth 100000 in
set_option maxHeartbeats 4000000 in
theorem upto_walk (A : Option Addr) (c : Nat) (L : List Ed) (t1 t2 : Int) (xt : Int) (xnm : ByteArray) (xty xn : Int) (xs : ByteArray) (w : World) (hA : RdE w A L) (hL : L.length ≤ 9223372036854775807) :
    Calls Try.prog 10 #[.slice A L.length c, .agg #[.int .i64 t1, .int .i64 t2, .int .i64 xt, .string xnm, .int .i64 xty, .int .i64 xn, .string xs]] w fun e w' => e = .returned (.bool true) ∧ Below w.heap.size w w' := by
  obtain ⟨i0, hi, hz0, hz1, hz2⟩ := info_parts info49
  obtain ⟨w0, hw0⟩ : ∃ w0 : World, w0 = w.alloc (.cells #[.int .i64 t1, .int .i64 t2, .int .i64 xt, .string xnm, .int .i64 xty, .int .i64 xn, .string xs] 60) := ⟨_, rfl⟩
  have kw0 : Keeps (fun _ => False) w w0 := by rw [hw0]; exact (Keeps.refl _ _).alloc _
  have sw0 : w0.heap.size = w.heap.size + 1 := by rw [hw0]; simp
  have hcut : ∀ wq, Keeps (fun _ => False) w0 wq → wq.cell? ⟨w.heap.size, 0, none⟩ = some (.int .i64 t1) ∧ wq.cell? ⟨w.heap.size, 1, none⟩ = some (.int .i64 t2) ∧ wq.cell? ⟨w.heap.size, 2, none⟩ = some (.int .i64 xt) ∧ wq.cell? ⟨w.heap.size, 3, none⟩ = some (.string xnm) ∧ wq.cell? ⟨w.heap.size, 4, none⟩ = some (.int .i64 xty) ∧ wq.cell? ⟨w.heap.size, 5, none⟩ = some (.int .i64 xn) ∧ wq.cell? ⟨w.heap.size, 6, none⟩ = some (.string xs) ∧ w.heap.size < wq.heap.size := fun wq hq => by
    have hl : w.heap.size < w0.heap.size := by omega
    have hs := hq.size
    refine ⟨(hq.cell hl (fun h => h)).trans ?_, (hq.cell hl (fun h => h)).trans ?_, (hq.cell hl (fun h => h)).trans ?_, (hq.cell hl (fun h => h)).trans ?_, (hq.cell hl (fun h => h)).trans ?_, (hq.cell hl (fun h => h)).trans ?_, (hq.cell hl (fun h => h)).trans ?_, by omega⟩ <;> (rw [hw0]; simp)
  have SC := Lib.hid (shown16 w0)
  have HCut := Lib.hid hcut
  have F1 : Hid (∀ w1, Keeps (fun _ => False) w0 w1 → Calls Try.prog 23 #[.slice A L.length c] w1 (NewE (fewE L) w1)) := fun w1 h => few_any w1 A c L ((hA.keep kw0).keep h) hL
  obtain ⟨l, hl⟩ : ∃ l : Nat, l = L.length := ⟨_, rfl⟩
  obtain ⟨F, hF⟩ : ∃ F : List Ed, F = fewE L := ⟨_, rfl⟩
  have hF10 : F.length ≤ 10 := by rw [hF]; exact fewE_length L
  rw [← hF, ← hl] at F1
  rw [← hl]
  have KW := Lib.hid kw0
  clear hA hL hl hF kw0 hcut sw0
  go_enter Try.func10, Try.ntmps10
  go_wp2_with fail
  rw [← hw0]
  clear hw0
  refine SC.out.mono ?_
  rintro e w1 ⟨rfl, k1⟩
  have C1 := Lib.hid (F1.out w1 k1)
  have K1 := Lib.hid k1
  clear k1 F1 SC
  go_wp2_with fail
  refine C1.out.mono ?_
  rintro e w2 ⟨A2, c2, rfl, o2, b2, k2⟩
  have k2' := K1.out.trans k2 (fun _ _ h => h)
  have K2 := Lib.hid k2'
  have O2 := Lib.hid o2
  have hrd : RdE (w2.alloc (.cells #[.int .i64 xt, .string xnm, .int .i64 xty, .int .i64 xn, .string xs] 49)) (some ⟨w2.heap.size, 0, none⟩) [⟨xt, xnm, xty, xn, xs⟩] := fun _ => ⟨w2.heap.size, 0, rfl, fun k hk => by
    obtain rfl : k = 0 := by simpa using hk
    exact ⟨by simp, by simp, by simp, by simp, by simp⟩⟩
  have FC := Lib.hid (few_any _ _ 1 _ hrd (by simp))
  obtain ⟨z0, z1, z2, z3, z4, z5, z6, zl⟩ := HCut.out w2 k2'
  clear C1 k2 k2' o2 b2 hrd
  obtain ⟨n, hn⟩ : ∃ n : Nat, n = F.length := ⟨_, rfl⟩
  rw [← hn] at hF10 O2 ⊢
  have HN := Lib.hid hn
  clear hn
  go_wp2_with fail
  refine FC.out.mono ?_
  rintro e w3 ⟨A3, c3, rfl, o3, b3, k3⟩
  obtain ⟨y, hy⟩ : ∃ y : Ed, y = cutEd ⟨xt, xnm, xty, xn, xs⟩ := ⟨_, rfl⟩
  have hx : fewE [(⟨xt, xnm, xty, xn, xs⟩ : Ed)] = [y] := by rw [hy]; rfl
  rw [hx] at o3 ⊢
  have k3' := ((Keeps.refl (fun _ => False) w2).alloc (.cells #[.int .i64 xt, .string xnm, .int .i64 xty, .int .i64 xn, .string xs] 49)).trans k3 (fun _ _ h => h)
  have K3 := Lib.hid (K2.out.trans k3' (fun _ _ h => h))
  have O2 := Lib.hid (own_of O2.out k3')
  obtain ⟨b, off, rfl, hc⟩ := own_rdE o3 rfl (by simp)
  obtain ⟨yt, ynm, yty, yn, ys⟩ := y
  have e0 : w3.cell? ⟨b, off, none⟩ = some (.int .i64 yt) := (hc 0 (by simp)).1
  have e1 : w3.cell? ⟨b, off + 1, none⟩ = some (.string ynm) := (hc 0 (by simp)).2.1
  have e2 : w3.cell? ⟨b, off + 2, none⟩ = some (.int .i64 yty) := (hc 0 (by simp)).2.2.1
  have e3 : w3.cell? ⟨b, off + 3, none⟩ = some (.int .i64 yn) := (hc 0 (by simp)).2.2.2.1
  have e4 : w3.cell? ⟨b, off + 4, none⟩ = some (.string ys) := (hc 0 (by simp)).2.2.2.2
  have hlen : ([{ t := yt, nm := ynm, ty := yty, n := yn, s := ys }] : List Ed).length = 1 := rfl
  rw [hlen]
  have hbl := cell_ltk e0
  have hbn : b ≠ w3.heap.size := by omega
  clear hy hx o3 b3 k3 k3' FC hc hlen z0 z1 z2 z3 z4 z5 z6 zl
  go_upto_region 4 with fail
  obtain ⟨q, hq⟩ : ∃ q : Nat, q = w3.heap.size := ⟨_, rfl⟩
  have HB := Lib.hid (show Box _ q yt ynm yty yn ys from by rw [hq]; exact Box.new w3 yt ynm yty yn ys)
  have kb : Keeps (fun _ => False) w3 (w3.alloc (.cells #[.int .i64 yt, .string ynm, .int .i64 yty, .int .i64 yn, .string ys] 49)) := (Keeps.refl _ _).alloc _
  have O2 := Lib.hid (own_of O2.out kb)
  have K4 := Lib.hid (K3.out.trans kb (fun _ _ h => h))
  obtain ⟨w4, hw4⟩ : ∃ w4 : World, w4 = w3.alloc (.cells #[.int .i64 yt, .string ynm, .int .i64 yty, .int .i64 yn, .string ys] 49) := ⟨_, rfl⟩
  rw [← hw4] at HB O2 K4 ⊢
  rw [← hq]
  clear hw4 hq kb e0 e1 e2 e3 e4 hbl hbn
  have hr := own_rdE O2.out HN.out
  have h0 := own_none O2.out
  have UM : Hid (∀ (wq : World) (tt : Int), Keeps (fun _ => False) w4 wq → Calls Try.prog 30 #[.slice A2 n c2, .int .i64 tt] wq (NewE (uptoE F tt) wq)) := fun wq tt h => by
    rw [HN.out]
    exact upto_any wq A2 c2 F (hr.keep h) (by rw [← HN.out]; omega) tt
  have HR := Lib.hid hr
  have H0 := Lib.hid h0
  obtain ⟨z0, z1, _, _, _, _, _, zl⟩ := HCut.out w4 K4.out
  obtain ⟨U, hU⟩ : ∃ U : List Ed, U = uptoE F t1 := ⟨_, rfl⟩
  obtain ⟨u, hu⟩ : ∃ u : Nat, u = U.length := ⟨_, rfl⟩
  have hul : u ≤ 10 := by rw [hu, hU]; exact Nat.le_trans (uptoE_le F t1) (by rw [← HN.out]; omega)
  obtain ⟨V, hV⟩ : ∃ V : List Ed, V = uptoE F (min t1 t2) := ⟨_, rfl⟩
  have hUV : uptoE U t2 = V := by rw [hU, hV]; exact upto_upto F t1 t2
  obtain ⟨v, hv⟩ : ∃ v : Nat, v = V.length := ⟨_, rfl⟩
  have hvl : v ≤ 10 := by rw [hv, hV]; exact Nat.le_trans (uptoE_le F _) (by rw [← HN.out]; omega)
  have U1 := Lib.hid (UM.out w4 t1)
  have U2 : Hid (∀ wq, Keeps (fun _ => False) w4 wq → Calls Try.prog 30 #[.slice A2 n c2, .int .i64 (min t1 t2)] wq (NewE V wq)) := fun wq h => by rw [hV]; exact UM.out wq _ h
  have HU := Lib.hid hu
  have HV := Lib.hid hv
  have HUV := Lib.hid hUV
  have U3 : Hid (∀ (wq : World) (Aq : Option Addr) (cq : Nat), wq.ownsRow 0 49 5 (.slice Aq u cq) u (flatE U) → Calls Try.prog 30 #[.slice Aq u cq, .int .i64 t2] wq (NewE V wq)) := fun wq Aq cq ho => by
    have h := upto_any wq Aq cq U (own_rdE ho HU.out) (by rw [← HU.out]; omega) t2
    rw [HUV.out, ← HU.out] at h
    exact h
  have U1 : Hid (∀ wq, Keeps (fun _ => False) w4 wq → Calls Try.prog 30 #[.slice A2 n c2, .int .i64 t1] wq (NewE U wq)) := fun wq h => by rw [hU]; exact UM.out wq _ h
  clear hr h0 hU hu hV hv hUV UM
  refine wp_region_held_drew (S := fun w' => w'.cell? ⟨w.heap.size, 0, none⟩ = some (.int .i64 t1) ∧ w'.cell? ⟨w.heap.size, 1, none⟩ = some (.int .i64 t2) ∧ Keeps (fun _ => False) w4 w') (by kernel_rfl) (⟨z0, z1, (Keeps.refl _ _).drew⟩) (fun hHeld => ?_)
  clear z0 z1
  refine wpAnyH_take (i := 0) (v := ?_) rfl (by kernel_rfl) (by kernel_rfl) (by kernel_rfl) (fun _ _ _ h => h) (Or.inl ⟨by rfl, ?_⟩) (by assumption) ?_
  rotate_left
  · (intro w' hSw; (try dsimp only at hSw); obtain ⟨z0, z1, zk⟩ := hSw; go_simp; (try (with_reducible rfl)))
  simp only [Act.put, List.getElem_toArray, List.getElem_cons_zero, List.setIfInBounds_toArray, List.set_cons_succ, List.set_cons_zero]
  refine wpAnyH_take (i := 1) (v := ?_) rfl (by kernel_rfl) (by kernel_rfl) (by kernel_rfl) (fun _ _ _ h => h) (Or.inl ⟨by rfl, ?_⟩) (by assumption) ?_
  rotate_left
  · (intro w' hSw; (try dsimp only at hSw); obtain ⟨z0, z1, zk⟩ := hSw; go_simp; (try (with_reducible rfl)))
  simp only [Act.put, List.getElem_toArray, List.getElem_cons_succ, List.getElem_cons_zero, List.setIfInBounds_toArray, List.set_cons_succ, List.set_cons_zero]
  refine wpAnyH_take (i := 2) (v := ?_) rfl (by kernel_rfl) (by kernel_rfl) (by kernel_rfl) (fun _ _ _ h => h) (Or.inl ⟨by rfl, ?_⟩) (by assumption) ?_
  rotate_left
  · (intro w' hSw; (try dsimp only at hSw); obtain ⟨z0, z1, zk⟩ := hSw; go_simp; (try (with_reducible rfl)))
  simp only [Act.put, List.getElem_toArray, List.getElem_cons_succ, List.getElem_cons_zero, List.setIfInBounds_toArray, List.set_cons_succ, List.set_cons_zero]
  refine wpAnyH_take (i := 4) (v := ?_) rfl (by kernel_rfl) (by kernel_rfl) (by kernel_rfl) (fun _ _ _ h => h) (Or.inl ⟨by rfl, ?_⟩) (by assumption) ?_
  rotate_left
  · (intro w' hSw; (try dsimp only at hSw); obtain ⟨z0, z1, zk⟩ := hSw; go_simp; (try (with_reducible rfl)))
  simp only [Act.put, List.getElem_toArray, List.getElem_cons_succ, List.getElem_cons_zero, List.setIfInBounds_toArray, List.set_cons_succ, List.set_cons_zero]
  refine wpAnyH_take (i := 5) (v := ?_) rfl (by kernel_rfl) (by kernel_rfl) (by kernel_rfl) (fun _ _ _ h => h) (Or.inl ⟨by rfl, ?_⟩) (by assumption) ?_
  rotate_left
  · (intro w' hSw; (try dsimp only at hSw); obtain ⟨z0, z1, zk⟩ := hSw; go_simp; (try (with_reducible rfl)))
  simp only [Act.put, List.getElem_toArray, List.getElem_cons_succ, List.getElem_cons_zero, List.setIfInBounds_toArray, List.set_cons_succ, List.set_cons_zero]
  refine wpAnyH_ready (rs := [3]) (by kernel_rfl) (by simp) ?_
  refine AllReadyH.cons rfl (fun K hK => ?_) AllReadyH.nil
  go_simp
  (go_at_call 30; refine (U1.out _ hHeld.2.2).mono ?_; rintro e w5 ⟨A5, c5, rfl, o5, b5, k5⟩; have hb4 := k5; rw [← HU.out] at o5 b5; have O5 := Lib.hid o5; clear o5 b5; (try rw [← HU.out]); (try go_simp))
  refine hK.out _ _ ?_ (fun hHeld => ?_)
  · (try dsimp only)
    exact ⟨(hb4.cell (cell_ltk hHeld.1) (fun h => h)).trans hHeld.1, (hb4.cell (cell_ltk hHeld.2.1) (fun h => h)).trans hHeld.2.1, hHeld.2.2.trans hb4 (fun _ _ h => h)⟩
  clear hK K
  refine wpAnyH_ready (rs := [6]) (by kernel_rfl) (by simp) ?_
  refine AllReadyH.cons rfl (fun K hK => ?_) AllReadyH.nil
  go_simp
  (go_at_call 30; refine (U3.out _ A5 c5 O5.out).mono ?_; rintro e w6 ⟨A6, c6, rfl, o6, b6, k6⟩; have hb4 := k6; rw [← HV.out] at o6 b6; have O6 := Lib.hid o6; clear o6 b6; (try rw [← HV.out]); (try go_simp))
  refine hK.out _ _ ?_ (fun hHeld => ?_)
  · (try dsimp only)
    exact ⟨(hb4.cell (cell_ltk hHeld.1) (fun h => h)).trans hHeld.1, (hb4.cell (cell_ltk hHeld.2.1) (fun h => h)).trans hHeld.2.1, hHeld.2.2.trans hb4 (fun _ _ h => h)⟩
  clear hK K
  refine wpAnyH_take (i := 7) (v := ?_) rfl (by kernel_rfl) (by kernel_rfl) (by kernel_rfl) (fun _ _ _ h => h) (Or.inl ⟨by rfl, ?_⟩) (by assumption) ?_
  rotate_left
  · (intro w' hSw; (try dsimp only at hSw); obtain ⟨z0, z1, zk⟩ := hSw; go_simp; (try (with_reducible rfl)))
  simp only [Act.put, List.getElem_toArray, List.getElem_cons_succ, List.getElem_cons_zero, List.setIfInBounds_toArray, List.set_cons_succ, List.set_cons_zero]
  refine wpAnyH_done (by kernel_rfl) ?_ _
  have hk6 := hHeld.2.2
  have K6 := Lib.hid hk6
  clear hHeld k5 k6 O5
  obtain ⟨z0, z1, _, _, _, _, _, zl⟩ := HCut.out w6 (K4.out.trans K6.out (fun _ _ h => h))
  have C2 := Lib.hid (U2.out w6 K6.out)
  clear U1 U2 U3
  go_wp2_with fail
  refine C2.out.mono ?_
  rintro e w7 ⟨A7, c7, rfl, o7, b7, k7⟩
  rw [← HV.out] at o7 ⊢
  have O6 := Lib.hid (own_of O6.out k7)
  have CS : Hid (Calls Try.prog 27 #[.slice A6 v c6, .slice A7 v c7] w7 fun e w' => e = .returned (.bool true) ∧ Keeps (fun _ => False) w7 w') := by
    rw [HV.out]
    exact (same_any w7 A6 A7 c6 c7 V V (own_rdE O6.out HV.out) (own_rdE o7 HV.out) (by rw [← HV.out]; omega) (by rw [← HV.out]; omega)).mono fun e w' h => same_true rfl h
  have K7 := Lib.hid (K6.out.trans k7 (fun _ _ h => h))
  clear o7 b7 k7 C2 z0 z1 O6
  go_wp2_with fail
  refine CS.out.mono ?_
  rintro e w8 ⟨rfl, k8⟩
  have K8 := Lib.hid (K7.out.trans k8 (fun _ _ h => h))
  clear k8 CS
  have bx := HB.out.keep K8.out
  obtain ⟨e0, e1, e2, e3, e4, _⟩ := bx
  have hql := cell_ltk e0
  have hqn : q ≠ w8.heap.size := by omega
  have hrd : RdE (w8.alloc (.cells #[.int .i64 yt, .string ynm, .int .i64 yty, .int .i64 yn, .string ys] 49)) (some ⟨w8.heap.size, 0, none⟩) [⟨yt, ynm, yty, yn, ys⟩] := fun _ => ⟨w8.heap.size, 0, rfl, fun k hk => by
    obtain rfl : k = 0 := by simpa using hk
    exact ⟨by simp, by simp, by simp, by simp, by simp⟩⟩
  have ka : Keeps (fun _ => False) w8 (w8.alloc (.cells #[.int .i64 yt, .string ynm, .int .i64 yty, .int .i64 yn, .string ys] 49)) := (Keeps.refl _ _).alloc _
  obtain ⟨mm, hmm⟩ : ∃ mm : List Ed, mm = insE F ⟨yt, ynm, yty, yn, ys⟩ := ⟨_, rfl⟩
  have hml : mm.length = n + 1 := by rw [hmm, insE_length, ← HN.out]
  have CI : Hid (Calls Try.prog 29 #[.slice A2 n c2, .slice (some ⟨w8.heap.size, 0, none⟩) 1 1] (w8.alloc (.cells #[.int .i64 yt, .string ynm, .int .i64 yty, .int .i64 yn, .string ys] 49)) (NewE mm (w8.alloc (.cells #[.int .i64 yt, .string ynm, .int .i64 yty, .int .i64 yn, .string ys] 49)))) := by
    rw [HN.out, hmm]
    exact insert_any _ A2 c2 F ((HR.out.keep K8.out).keep ka) (by rw [← HN.out]; exact H0.out) _ 1 [⟨yt, ynm, yty, yn, ys⟩] hrd (by rw [← HN.out]; simp; omega)
  have HMM := Lib.hid hmm
  obtain ⟨N1, hN1⟩ : ∃ N1 : Nat, N1 = mm.length := ⟨_, rfl⟩
  have hN1n : N1 = n + 1 := by rw [hN1, hml]
  have HN1 := Lib.hid hN1
  have HNN := Lib.hid hN1n
  have KA := Lib.hid (K8.out.trans ka (fun _ _ h => h))
  clear hrd ka hmm hml hN1 hN1n
  go_wp2_with fail
  refine CI.out.mono ?_
  rintro e w9 ⟨A9, c9, rfl, o9, b9, k9⟩
  rw [← HN1.out] at o9 ⊢
  have O9 := Lib.hid o9
  have K9 := Lib.hid (KA.out.trans k9 (fun _ _ h => h))
  clear o9 b9 k9 CI e0 e1 e2 e3 e4 hql hqn KA
  have hsq : ((N1 : Int) == (n : Int) + 1) = true := by have := HNN.out; simp; omega
  have hsn : ((N1 : Int) != (n : Int) + 1) = false := by have := HNN.out; simp; omega
  have hpl := plE_le F yt
  obtain ⟨p, hp⟩ : ∃ p : Nat, p = plE F yt := ⟨_, rfl⟩
  rw [← hp, ← HN.out] at hpl
  have hmp : mm.getD p default = ⟨yt, ynm, yty, yn, ys⟩ := by rw [HMM.out, hp]; exact insE_at F ⟨yt, ynm, yty, yn, ys⟩
  have hmr : mm.take p ++ mm.drop (p + 1) = F := by rw [HMM.out, hp]; exact insE_rest F ⟨yt, ynm, yty, yn, ys⟩
  have HMP := Lib.hid hmp
  have HMR := Lib.hid hmr
  have HB9 := Lib.hid (HB.out.keep K9.out)
  have HR9 := Lib.hid (HR.out.keep K9.out)
  have R9 := Lib.hid (own_rdE O9.out HN1.out)
  obtain ⟨g9, hg9⟩ : ∃ g, A9 = some ⟨g, 0, none⟩ := by
    rcases O9.out.2 with ⟨_, h0⟩ | ⟨g, cap, cur, e1, _⟩
    · have := HNN.out; omega
    · simp only [Value.slice.injEq] at e1
      exact ⟨g, e1.1⟩
  subst hg9
  have hcap : N1 ≤ c9 := by
    rcases O9.out.2 with ⟨e, h0⟩ | ⟨g, cap, cur, e1, _, _, hnc, _⟩
    · have := HNN.out; omega
    · simp only [Value.slice.injEq] at e1
      omega
  have hN1l : N1 ≤ 11 := by have := HNN.out; omega
  have hcI : (N1 : Int) ≤ (c9 : Int) := by omega
  clear hp hmp hmr
  go_wp2_with fail
  go_loopw [11, 12] (fun s11 s12 wr => ∃ (k : Nat) (z : Int), k ≤ N1 ∧ s12 = .int .i64 k ∧ s11 = .int .i64 z ∧ ((z = -1 ∧ k ≤ p) ∨ 0 ≤ z) ∧ Keeps (fun _ => False) w9 wr) (fun _ s12 _ => N1 - (intOf s12).toNat)
  case atStart => exact ⟨0, -1, Nat.zero_le _, rfl, rfl, .inl ⟨rfl, Nat.zero_le _⟩, Keeps.refl _ _⟩
  case round =>
    obtain ⟨k, z, hk, rfl, rfl, hz, kr⟩ := hrel
    by_cases hz0' : 0 ≤ z
    · have hz1' : ¬ z < 0 := by omega
      have hd : decide (z < 0) = false := decide_eq_false hz1'
      have hd2 : decide (0 ≤ z) = true := decide_eq_true hz0'
      have hfin : Below w.heap.size w wr := (((KW.out.trans K4.out (T := fun _ => False) (fun _ _ h => h)).trans K9.out (T := fun _ => False) (fun _ _ h => h)).trans kr (T := fun _ => False) (fun _ _ h => h)).toBelow (Nat.le_refl _) (fun _ h => h.elim)
      have HFn := Lib.hid hfin
      clear hfin hz kr
      by_cases hkN : k < N1
      · have hkN' : (k : Int) < (N1 : Int) := by omega
        go_wp2
        go_ret
        exact ⟨rfl, HFn.out⟩
      · have hkN' : ¬ (k : Int) < (N1 : Int) := by omega
        have hd3 : decide ((k : Int) < (N1 : Int)) = false := decide_eq_false hkN'
        go_wp2
        go_ret
        exact ⟨rfl, HFn.out⟩
    · obtain ⟨rfl, hkp⟩ : z = -1 ∧ k ≤ p := hz.resolve_right (by omega)
      have hkn : k ≤ n := by omega
      have hkN : k < N1 := by have := HNN.out; omega
      have hkN' : (k : Int) < (N1 : Int) := by omega
      have hk0 : (0 : Int) ≤ (k : Int) := by omega
      obtain ⟨b9, off9, e9, hc9⟩ := (R9.out.keep kr) (by rw [← HN1.out]; omega)
      injection e9 with e9
      injection e9 with e9a e9b
      subst e9a e9b
      have hcell := hc9 k (by rw [← HN1.out]; exact hkN)
      rw [Nat.zero_add] at hcell
      have KR := Lib.hid kr
      have OM := Lib.hid (own_of O9.out kr)
      have RL : Hid (∀ wq, Keeps (fun _ => False) wr wq → RdE wq (some ⟨g9, 0, none⟩) mm) := fun wq h => (R9.out.keep kr).keep h
      have RF : Hid (∀ wq, Keeps (fun _ => False) wr wq → RdE wq A2 F) := fun wq h => (HR9.out.keep kr).keep h
      have BX : Hid (∀ wq, Keeps (fun _ => False) wr wq → Box wq q yt ynm yty yn ys) := fun wq h => (HB9.out.keep kr).keep h
      clear hz hz0' hc9 hcell kr
      have OW : Hid (∀ W : World, ((W.alloc (.cells #[] 49)).drew).ownsRow 0 49 5 (.slice (some ⟨W.heap.size, 0, none⟩) 0 0) 0 []) := fun W => (World.ownsRow_lit (base := 0) (e := 49) (size := 5) W #[] 0 (Nat.zero_le _) (by unfold maxLen; omega) rfl).drew
      have RT : Hid (RdO ((wr.alloc (.cells #[] 49)).drew) (some ⟨g9, 0, none⟩) (flatE (mm.take k))) := fun h0 => by
        obtain ⟨b', off', e, hc⟩ := (RL.out _ (((Keeps.refl _ wr).alloc (.cells #[] 49)).drew)).rdo (by rw [flatE_length, ← HN1.out]; omega)
        refine ⟨b', off', e, fun i hi => ?_⟩
        have hi2 : i < k * 5 := by rw [flatE_length, List.length_take] at hi; omega
        rw [hc i (by rw [flatE_length, ← HN1.out]; omega), ← flatE_take mm k (by rw [← HN1.out]; omega), List.getElem?_take, if_pos hi2]
      have LT : Hid ((flatE (mm.take k)).length = k * 5) := by show _ = _; rw [flatE_length, List.length_take, ← HN1.out]; omega
      have LD : Hid ((flatE (mm.drop (k + 1))).length = (N1 - (k + 1)) * 5) := by show _ = _; rw [flatE_length, List.length_drop, ← HN1.out]
      have OT := Lib.hid (flatE_one (mm.take k))
      have OD := Lib.hid (flatE_one (mm.drop (k + 1)))
      have TL : Hid (∀ W, Keeps (fun _ => False) wr W → ∀ ad : Nat, (ad = (k + 1) * 5 ∨ N1 = k + 1) → RdO W (some ⟨g9, ad, none⟩) (flatE (mm.drop (k + 1)))) := fun W hK ad had h0 => by
        rw [LD.out] at h0
        obtain rfl : ad = (k + 1) * 5 := by omega
        obtain ⟨b', off', e, hc⟩ := (RL.out _ hK).rdo (by rw [flatE_length, ← HN1.out]; omega)
        injection e with e
        injection e with ea eb
        subst ea eb
        refine ⟨g9, (k + 1) * 5, rfl, fun i hi => ?_⟩
        rw [LD.out] at hi
        rw [← flatE_drop mm (k + 1) (by rw [← HN1.out]; omega), List.getElem?_drop, ← hc _ (by rw [flatE_length, ← HN1.out]; omega), Nat.zero_add]
      have HE : Hid (∀ (W5 : World) (v5 : Value), W5.ownsRow 0 49 5 v5 (0 + k) ([] ++ flatE (mm.take k)) → ((wr.alloc (.cells #[] 49)).drew).grownBy W5 (Value.slice (some ⟨wr.heap.size, 0, none⟩) 0 0).ownBlock → (v5.ownBlock = (Value.slice (some ⟨wr.heap.size, 0, none⟩) 0 0).ownBlock ∨ v5.ownBlock = some ((wr.alloc (.cells #[] 49)).drew).heap.size) → Keeps (fun _ => False) wr W5 ∧ ∀ g, v5.ownBlock = some g → wr.heap.size ≤ g) := fun W5 v5 ho hg hb => by
        refine ⟨(((Keeps.refl _ wr).alloc _).drew).grown hg fun k e hlt => by have : wr.heap.size = k := Option.some.inj e; omega, fun g hg2 => ?_⟩
        rcases hb with e | e
        · rw [e] at hg2
          exact Nat.le_of_eq (Option.some.inj hg2)
        · rw [e] at hg2
          have : (wr.alloc (.cells #[] 49)).heap.size = g := Option.some.inj hg2
          rw [World.size_alloc] at this
          omega
      have HG : Hid (∀ (W5 : World) (v5 : Value), Keeps (fun _ => False) wr W5 → (∀ g, v5.ownBlock = some g → wr.heap.size ≤ g) → ∀ (m2 : Nat), m2 = N1 - (k + 1) → ∀ (W9 : World) (v9 : Value), W9.ownsRow 0 49 5 v9 (0 + k + m2) ([] ++ flatE (mm.take k) ++ flatE (mm.drop (k + 1))) → W5.grownBy W9 v5.ownBlock → (v9.ownBlock = v5.ownBlock ∨ v9.ownBlock = some W5.heap.size) →
          W9.ownsRow 0 49 5 v9 n (flatE (mm.take k ++ mm.drop (k + 1))) ∧ Keeps (fun _ => False) wr W9) := fun W5 v5 hk5 hb5 m2 hm2 W9 v9 ho hg hb => by
        have hnn := HNN.out
        rw [show 0 + k + m2 = n by omega, List.nil_append, ← flatE_append] at ho
        exact ⟨ho, hk5.grown hg fun k e hlt => by have := hb5 k e; omega⟩
      have hk1 : (0 : Int) ≤ (k : Int) + 1 := by omega
      have tk1 : ((k : Int) + 1).toNat = k + 1 := by omega
      have hkNI : (k : Int) + 1 ≤ (N1 : Int) := by omega
      have hkcI : (k : Int) ≤ (c9 : Int) := by omega
      have sk1 : IntKind.i64.wrap ((k : Int) + 1) = (k : Int) + 1 := IntWalk.i64_in _ (by omega)
      have hkk : (k : Int) ≤ (k : Int) + 1 := by omega
      have hkc : k ≤ c9 := by omega
      go_upto_region 14 with fail
      go_cut [13] from 65 to 74 (fun s13 wx => wx.ownsRow 0 49 5 s13 n (flatE (mm.take k ++ mm.drop (k + 1))) ∧ Keeps (fun _ => False) wr wx)
      case first =>
        by_cases hc : c9 = k + 1
        · subst hc
          have hN1e : N1 = k + 1 := by omega
          have HNE := Lib.hid hN1e
          clear hN1e
          go_region_law (first | (refine step_append_optk (by rfl) (.tmp 65) (.tmp 68) 43 (by rfl) 0 49 i0 _ 5 56 Try.underlying43 hi hz0 hz1 hz2 (by rfl) (by omega) _ 0 _ (by rfl) (OW.out _) (some ⟨g9, 0, none⟩) k (k + 1) (flatE (mm.take k)) (by rfl) LT.out RT.out OT.out (fun h => by cases h) (by omega) (by omega) (Nat.zero_le _) ?_
                                  intro v5 W5 o5 g5 b5
                                  obtain ⟨A5, c5, rfl⟩ := own_formk o5
                                  have he5 := HE.out _ _ o5 g5 b5
                                  have O5 := Lib.hid o5
                                  have E5 := Lib.hid he5
                                  have RT5 := Lib.hid (TL.out W5 he5.1 0 (by have := HNE.out; omega))
                                  clear o5 g5 b5 he5)
                               | (refine step_append_optk (by rfl) (.tmp 69) (.tmp 73) 43 (by rfl) 0 49 i0 _ 5 56 Try.underlying43 hi hz0 hz1 hz2 (by rfl) (by omega) _ (0 + k) _ (by first | rfl | simp [Act.eval, Act.put]) O5.out (some ⟨g9, 0, none⟩) 0 0 (flatE (mm.drop (k + 1))) (by first | rfl | simp [Act.eval, Act.put]) (by rw [LD.out]; have := HNE.out; omega) RT5.out OD.out (fun h => by cases h) (by omega) (by omega) (Nat.zero_le _) ?_
                                  intro v9 W9 o9 g9 b9
                                  obtain ⟨A9, c9, rfl⟩ := own_formk o9
                                  have hq := HG.out _ _ E5.out.1 E5.out.2 _ (by have := HNE.out; omega) _ _ o9 g9 b9
                                  have HF := Lib.hid hq
                                  clear o9 g9 b9 hq))
          all_goals
            go_wp2_with fail
            go_meet
            exact (by have h := HF.out; simp only [Nat.zero_add, Nat.add_zero] at h; exact h)
        · go_region_law (first | (refine step_append_optk (by rfl) (.tmp 65) (.tmp 68) 43 (by rfl) 0 49 i0 _ 5 56 Try.underlying43 hi hz0 hz1 hz2 (by rfl) (by omega) _ 0 _ (by rfl) (OW.out _) (some ⟨g9, 0, none⟩) k c9 (flatE (mm.take k)) (by rfl) LT.out RT.out OT.out (fun h => by cases h) (by omega) (by omega) (Nat.zero_le _) ?_
                                  intro v5 W5 o5 g5 b5
                                  obtain ⟨A5, c5, rfl⟩ := own_formk o5
                                  have he5 := HE.out _ _ o5 g5 b5
                                  have O5 := Lib.hid o5
                                  have E5 := Lib.hid he5
                                  have RT5 := Lib.hid (TL.out W5 he5.1 ((k + 1) * 5) (by omega))
                                  clear o5 g5 b5 he5)
                               | (refine step_append_optk (by rfl) (.tmp 69) (.tmp 73) 43 (by rfl) 0 49 i0 _ 5 56 Try.underlying43 hi hz0 hz1 hz2 (by rfl) (by omega) _ (0 + k) _ (by first | rfl | simp [Act.eval, Act.put]) O5.out (some ⟨g9, (k + 1) * 5, none⟩) (N1 - (k + 1)) (c9 - (k + 1)) (flatE (mm.drop (k + 1))) (by first | rfl | simp [Act.eval, Act.put]) LD.out RT5.out OD.out (fun h => by cases h) (by omega) (by omega) (Nat.zero_le _) ?_
                                  intro v9 W9 o9 g9 b9
                                  obtain ⟨A9, c9, rfl⟩ := own_formk o9
                                  have hq := HG.out _ _ E5.out.1 E5.out.2 _ (by omega) _ _ o9 g9 b9
                                  have HF := Lib.hid hq
                                  clear o9 g9 b9 hq))
          all_goals
            go_wp2_with fail
            go_meet
            exact (by have h := HF.out; simp only [Nat.zero_add, Nat.add_zero] at h; exact h)
      case rest =>
        obtain ⟨ho, hkx⟩ := hcut
        obtain ⟨A10, c10, rfl⟩ := own_formk ho
        have hpure : ((Value.slice A10 n c10) = .slice A10 n c10) := rfl
        obtain ⟨rest, hrest⟩ : ∃ r : List Ed, r = mm.take k ++ mm.drop (k + 1) := ⟨_, rfl⟩
        rw [← hrest] at ho
        have hrl : n = rest.length := by have h := ho.1; rw [flatE_length] at h; omega
        have CS := Lib.hid (same_any wc A10 A2 c10 c2 rest F (own_rdE ho hrl) (RF.out wc hkx) (by rw [← hrl]; omega) (by rw [← HN.out]; omega))
        rw [← hrl, ← HN.out] at CS
        have HRest := Lib.hid hrest
        have KX := Lib.hid hkx
        clear hpure hrest ho hrl hkx OW RT LT LD OT OD TL HE HG
        go_wp2_with fail
        refine CS.out.mono ?_
        rintro e w11 ⟨bo, rfl, hbo, k11⟩
        have k11' := KX.out.trans k11 (fun _ _ h => h)
        obtain ⟨b', off', e', hc'⟩ := (RL.out w11 k11') (by rw [← HN1.out]; omega)
        injection e' with e'
        injection e' with ea eb
        subst ea eb
        obtain ⟨d0, d1, d2, d3, d4⟩ := hc' k (by rw [← HN1.out]; exact hkN)
        rw [Nat.zero_add] at d0 d1 d2 d3 d4
        obtain ⟨x, hx⟩ : ∃ x : Ed, x = mm.getD k default := ⟨_, rfl⟩
        rw [← hx] at d0 d1 d2 d3 d4
        obtain ⟨e0, e1, e2, e3, e4, _⟩ := BX.out w11 k11'
        obtain ⟨zt, znm, zty, zn, zs⟩ := x
        have hgu := guard49
        have hq0 := eql49 ⟨zt, znm, zty, zn, zs⟩ ⟨yt, ynm, yty, yn, ys⟩
        have hsi := sameB_iff ⟨zt, znm, zty, zn, zs⟩ ⟨yt, ynm, yty, yn, ys⟩
        unfold Ed.agg at hq0
        obtain ⟨bq, hbq⟩ : ∃ bq : Bool, bq = sameB ⟨zt, znm, zty, zn, zs⟩ ⟨yt, ynm, yty, yn, ys⟩ := ⟨_, rfl⟩
        rw [← hbq] at hq0 hsi
        have hnext : (bq = false ∨ bo = false) → k + 1 ≤ p := fun h => by
          rcases Nat.lt_or_ge k p with h1 | h1
          · exact h1
          · have hkpe : k = p := by omega
            have h2 : bq = true := hsi.2 (by rw [hx, hkpe]; exact HMP.out)
            have h3 : bo = true := hbo.2 (by rw [HRest.out, hkpe]; exact HMR.out)
            rcases h with h | h
            · rw [h2] at h; cases h
            · rw [h3] at h; cases h
        have HNx := Lib.hid hnext
        have K11 := Lib.hid (KR.out.trans k11' (fun _ _ h => h))
        clear CS HRest KX RL RF BX OM hbo k11 k11' hc' hx hbq hsi hnext
        cases bq with
        | true =>
          cases bo with
          | true =>
            have hq : ∀ w : World, (binOp .eql 49 (.agg #[.int .i64 zt, .string znm, .int .i64 zty, .int .i64 zn, .string zs]) (.agg #[.int .i64 yt, .string ynm, .int .i64 yty, .int .i64 yn, .string ys])).run Try.prog w = .ok (.bool true) w := hq0
            clear hq0
            go_wp2_with fail
            go_quiet (fail)
            go_wp2
            go_roundw
            case rel => exact ⟨k + 1, k, by omega, by go_num, rfl, .inr (by omega), (K11.out.trans (T := fun _ => False) ⟨rfl, rfl, rfl, Nat.le_refl _, fun _ _ _ => rfl⟩ (fun _ _ h => h))⟩
            case measure => simp [intOf]; omega
          | false =>
            have hq : ∀ w : World, (binOp .eql 49 (.agg #[.int .i64 zt, .string znm, .int .i64 zty, .int .i64 zn, .string zs]) (.agg #[.int .i64 yt, .string ynm, .int .i64 yty, .int .i64 yn, .string ys])).run Try.prog w = .ok (.bool true) w := hq0
            clear hq0
            go_wp2_with fail
            go_quiet (fail)
            go_wp2
            go_roundw
            case rel => exact ⟨k + 1, -1, by omega, by go_num, rfl, .inl ⟨rfl, HNx.out (by simp)⟩, (K11.out.trans (T := fun _ => False) ⟨rfl, rfl, rfl, Nat.le_refl _, fun _ _ _ => rfl⟩ (fun _ _ h => h))⟩
            case measure => simp [intOf]; omega
        | false =>
          cases bo with
          | true =>
            have hq : ∀ w : World, (binOp .eql 49 (.agg #[.int .i64 zt, .string znm, .int .i64 zty, .int .i64 zn, .string zs]) (.agg #[.int .i64 yt, .string ynm, .int .i64 yty, .int .i64 yn, .string ys])).run Try.prog w = .ok (.bool false) w := hq0
            clear hq0
            go_wp2_with fail
            go_quiet (fail)
            go_wp2
            go_roundw
            case rel => exact ⟨k + 1, -1, by omega, by go_num, rfl, .inl ⟨rfl, HNx.out (by simp)⟩, (K11.out.trans (T := fun _ => False) ⟨rfl, rfl, rfl, Nat.le_refl _, fun _ _ _ => rfl⟩ (fun _ _ h => h))⟩
            case measure => simp [intOf]; omega
          | false =>
            have hq : ∀ w : World, (binOp .eql 49 (.agg #[.int .i64 zt, .string znm, .int .i64 zty, .int .i64 zn, .string zs]) (.agg #[.int .i64 yt, .string ynm, .int .i64 yty, .int .i64 yn, .string ys])).run Try.prog w = .ok (.bool false) w := hq0
            clear hq0
            go_wp2_with fail
            go_quiet (fail)
            go_wp2
            go_roundw
            case rel => exact ⟨k + 1, -1, by omega, by go_num, rfl, .inl ⟨rfl, HNx.out (by simp)⟩, (K11.out.trans (T := fun _ => False) ⟨rfl, rfl, rfl, Nat.le_refl _, fun _ _ _ => rfl⟩ (fun _ _ h => h))⟩
            case measure => simp [intOf]; omega

end Go.Proofs.Ytpighdioomjnmab
