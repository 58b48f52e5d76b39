/-
  Layer 3: the program's statements, over a builder. Written by an AI agent.
  Layer 3: the program's statements, over a builder. Written by an AI agent.
  Layer 3: the document's text of an expression. Written by an AI agent.
-/
import Derived.Test.YtgelggdgbmldiaaDoorMkat
namespace Go.Proofs.YtgelggdgbmldiaaDoor
open Go Go.RowKit Go.Shelf
set_option linter.unusedVariables false
set_option linter.unusedSimpArgs false
set_option maxRecDepth 100000 in
set_option maxHeartbeats 16000000 in
theorem pst_ifs (Q : List UInt8 → Prop) (nd : List Nd) (fs : List Fnc) (A A' : Option Addr) (m k c c' : Nat) (hm : m = nd.length) (w0 : World) (hw0 : ShW w0) (hT0 : TreeR 0 w0 A A' nd fs) (b : Nat) (e : Ex) (bb : Bl) (hc0 : PXC Q nd fs A A' m k c c' e) (hc1 : PBC Q nd A A' m k c c' w0 b bb) : PSC Q nd A A' m k c c' w0 b (.ifs e bb) := by
  intro i t w kk nn ln nm l a ll cc hB hD hat hR hro hll hlen
  unfold RepS at hR
  obtain ⟨xa, xb, ys, ha, hx0, hb1, hb2⟩ := hR
  obtain ⟨rfl, rfl, rfl, rfl⟩ := ha.inj hat
  replace hll : ll = 2 := hll
  subst hll
  have hx1 : ∃ ys, At nd xb 18 0 [] ys ∧ RepB Q nd bb ys := ⟨ys, hb1, hb2⟩
  clear hb1 hb2
  have HV0 := Lib.hid hx0
  clear hx0
  have HV1 := Lib.hid hx1
  clear hx1
  have HB := Lib.hid hB
  have HD := Lib.hid hD
  have HW0 := Lib.hid hw0
  have HT0 := Lib.hid hT0
  have HC0 := Lib.hid hc0
  clear hc0
  have HC1 := Lib.hid hc1
  clear hc1
  obtain ⟨b0, o0, rfl, kw0⟩ := hro.get (k := 0) (by simp) (x := xa) rfl
  obtain ⟨b1, o1, ea1, kw1⟩ := hro.get (k := 1) (by simp) (x := xb) rfl
  cases ea1
  have hS : showS (.ifs e bb) = [105, 102, 32] ++ showE e ++ showK bb := by unfold showS showK; simp
  rw [hS] at hlen ⊢
  simp only [List.length_append] at hlen
  have HLEN := Lib.hid hlen
  have KW0 := Lib.hid kw0
  have KW1 := Lib.hid kw1
  clear hB hD hat ha hro hlen hS hw0 hT0 hm kw0 kw1
  go_enter Tryd.func68, Tryd.ntmps68
  go_upto_region 1 with fail
  obtain ⟨P1, hP1⟩ : ∃ X, X = w.heap.size := ⟨_, rfl⟩
  obtain ⟨w1, hw1⟩ : ∃ w1, w1 = w.alloc (.cells #[.slice A m c, .slice A' k c'] 27) := ⟨_, rfl⟩
  have ka := Keeps.one w (.cells #[.slice A m c, .slice A' k c'] 27)
  have hx1 : LocH w1 P1 [.slice A m c, .slice A' k c'] 27 := by rw [hw1, hP1]; exact LocH.new w [.slice A m c, .slice A' k c'] 27
  have hs1 : w1.heap.size = P1 + 1 := by rw [hw1, hP1, World.size_alloc]
  have hbl := HB.out.lt
  have hne1 : P1 ≠ b := by omega
  rw [← hP1]
  rw [← hw1] at ka ⊢
  obtain ⟨P2, hP2⟩ : ∃ X, X = w1.heap.size := ⟨_, rfl⟩
  have hne2 : P2 ≠ b := by omega
  obtain ⟨w2, hw2⟩ : ∃ w2, w2 = w1.alloc (.cells #[.int .i64 15, .int .i64 ln, .int .i64 0, .string (ofL []), .slice (some ⟨b0, o0, none⟩) 2 cc] 33) := ⟨_, rfl⟩
  have kb := Keeps.one w1 (.cells #[.int .i64 15, .int .i64 ln, .int .i64 0, .string (ofL []), .slice (some ⟨b0, o0, none⟩) 2 cc] 33)
  have hy2 : LocH w2 P2 [.int .i64 15, .int .i64 ln, .int .i64 0, .string (ofL []), .slice (some ⟨b0, o0, none⟩) 2 cc] 33 := by rw [hw2, hP2]; exact LocH.new w1 [.int .i64 15, .int .i64 ln, .int .i64 0, .string (ofL []), .slice (some ⟨b0, o0, none⟩) 2 cc] 33
  rw [← hw2] at kb ⊢
  (try rw [← hs1])
  (try rw [← hP2])
  have hB1 : w0.heap.size ≤ w1.heap.size := by have := HB.out.1; omega
  have HX2 := Lib.hid (hx1.keep (FrB.ofKeeps (b := b) kb hB1) hne1 (by decide))
  have HY2 := Lib.hid hy2
  have K2 := Lib.hid (ka.trans kb (fun _ _ h => h))
  have F2 : Hid (FrB w0.heap.size b w w2) := Lib.hid (FrB.ofKeeps K2.out HB.out.1)
  have HB2 := Lib.hid (HB.out.keep K2.out)
  have D2 := Lib.hid (below_trans HD.out F2.out.below)
  have HNE1 := Lib.hid hne1
  have HNE2 := Lib.hid hne2
  clear ka kb hw1 hw2 hP1 hP2 hs1 hx1 hy2 hbl hne1 hne2 hB1 HB HD
  have SK : Hid (∀ w', FrB w0.heap.size b w2 w' → (w'.cell? ⟨P1, 0, none⟩ = some (.slice A m c) ∧ w'.cell? ⟨P1, 1, none⟩ = some (.slice A' k c') ∧ w'.cell? ⟨P2, 4, none⟩ = some (.slice (some ⟨b0, o0, none⟩) 2 cc) ∧ w'.cell? ⟨b0, o0, none⟩ = some (.int .i64 xa) ∧ w'.cell? ⟨b0, (o0 + 1), none⟩ = some (.int .i64 xb)) ∧ FrB w0.heap.size b w2 w') := Lib.hid (fun w' q => ⟨⟨(HX2.out.keep q HNE1.out (by decide)).cell 0 _ rfl, (HX2.out.keep q HNE1.out (by decide)).cell 1 _ rfl, (HY2.out.keep q HNE2.out (by decide)).cell 4 _ rfl, ((FrB.back (below_trans D2.out q.below)).cell (cell_ltk KW0.out) (fun h => h)).trans KW0.out, ((FrB.back (below_trans D2.out q.below)).cell (cell_ltk KW1.out) (fun h => h)).trans KW1.out⟩, q⟩)
  have f2 : FrB w0.heap.size b w2 w2 := FrB.refl _ _ _
  have hb2 := HB2.out
  have y0 := HY2.out.cell 0 _ rfl
  obtain ⟨T0, hT0_⟩ : ∃ S, S = ofL (showE e) := ⟨_, rfl⟩
  have HT0_ := Lib.hid hT0_
  have CH : Hid (∀ w', FrB w0.heap.size b w2 w' → BW w0.heap.size b t w' → Calls Tryd.prog 20 #[.agg #[.slice A m c, .slice A' k c'], .int .i64 xa] w' fun r w'' => r = .returned (.string T0) ∧ BW w0.heap.size b t w'' ∧ FrB w0.heap.size b w2 w'') := Lib.hid (fun w' q hb => by
    rw [HT0_.out]
    have kk := FrB.back (below_trans D2.out q.below)
    exact (HC0.out xa w' (HW0.out.keep kk) (HT0.out.keep kk) HV0.out).mono fun r w'' ⟨h1, h2⟩ => ⟨h1, hb.keep h2, q.trans (FrB.ofKeeps h2 hb.1)⟩)
  have q1 : ¬ 9223372036854775807 < 3 + T0.size := by have := HLEN.out; rw [hT0_, ofL_size]; omega
  have WH : Hid (∀ w', FrB w0.heap.size b w2 w' → BW w0.heap.size b t w' → Calls Tryd.prog 36 #[.pointer (some ⟨b, 0, none⟩), .string (({ data := #[105, 102, 32] } : ByteArray) ++ T0)] w' fun r w'' => r = .returned (.tuple #[.int .i64 ((({ data := #[105, 102, 32] } : ByteArray) ++ T0).size : Nat), .nilIface]) ∧ BW w0.heap.size b (t ++ ([105, 102, 32] ++ showE e)) w'' ∧ FrB w0.heap.size b w2 w'') := Lib.hid (fun w' q hb => by
    have e1 : (({ data := #[105, 102, 32] } : ByteArray) ++ T0).data.toList = [105, 102, 32] ++ showE e := by rw [bap_list, HT0_.out, ofL_list]
    refine (ws_any w0.heap.size b t (({ data := #[105, 102, 32] } : ByteArray) ++ T0) w' hb (by rw [← len_size, e1]; have := HLEN.out; rw [List.length_append]; have e2 : ([105, 102, 32] : List UInt8).length = 3 := rfl; omega)).mono fun r w'' ⟨h1, h2, h3⟩ => ⟨h1, ?_, q.trans h3⟩
    rw [e1] at h2
    exact h2)
  have BC1 : Hid (∀ w', FrB w0.heap.size b w2 w' → BW w0.heap.size b (t ++ ([105, 102, 32] ++ showE e)) w' → Calls Tryd.prog 38 #[.pointer (some ⟨b, 0, none⟩), .agg #[.slice A m c, .slice A' k c'], .int .i64 xb] w' fun r w'' => r = .returned (.tuple #[]) ∧ BW w0.heap.size b (t ++ ([105, 102, 32] ++ showE e) ++ showK bb) w'' ∧ FrB w0.heap.size b w2 w'') := Lib.hid (fun w' q hb => (HC1.out xb _ w' hb (below_trans D2.out q.below) HV1.out (by have := HLEN.out; simp only [List.length_append]; omega)).mono fun r w'' ⟨h1, h2, h3⟩ => ⟨h1, h2, q.trans h3⟩)
  clear hT0_
  go_upto_region 4 with fail
  go_region_held3 (fun w' => (w'.cell? ⟨P1, 0, none⟩ = some (.slice A m c) ∧ w'.cell? ⟨P1, 1, none⟩ = some (.slice A' k c') ∧ w'.cell? ⟨P2, 4, none⟩ = some (.slice (some ⟨b0, o0, none⟩) 2 cc) ∧ w'.cell? ⟨b0, o0, none⟩ = some (.int .i64 xa) ∧ w'.cell? ⟨b0, (o0 + 1), none⟩ = some (.int .i64 xb)) ∧ FrB w0.heap.size b w2 w') (first | exact SK.out _ (by assumption) | exact SK.out _ (FrB.drew (by assumption))) (first | (go_at_call 20; refine (CH.out _ (by first | assumption | exact FrB.drew (by assumption)) (by first | assumption | exact BW.drew (by assumption))).mono ?_; rintro r w4 ⟨rfl, hb4, f4⟩) | (go_at_call 36; refine (WH.out _ (by first | assumption | exact FrB.drew (by assumption)) (by first | assumption | exact BW.drew (by assumption))).mono ?_; rintro r w4 ⟨rfl, hb4, f4⟩))
  go_upto_region 5 with fail
  go_region_held3 (fun w' => (w'.cell? ⟨P1, 0, none⟩ = some (.slice A m c) ∧ w'.cell? ⟨P1, 1, none⟩ = some (.slice A' k c') ∧ w'.cell? ⟨P2, 4, none⟩ = some (.slice (some ⟨b0, o0, none⟩) 2 cc) ∧ w'.cell? ⟨b0, o0, none⟩ = some (.int .i64 xa) ∧ w'.cell? ⟨b0, (o0 + 1), none⟩ = some (.int .i64 xb)) ∧ FrB w0.heap.size b w2 w') (first | exact SK.out _ (by assumption) | exact SK.out _ (FrB.drew (by assumption))) (first | (go_at_call 38; refine (BC1.out _ (by first | assumption | exact FrB.drew (by assumption)) (by first | assumption | exact BW.drew (by assumption))).mono ?_; rintro r w5 ⟨rfl, hb5, f5⟩))
  have sk := SK.out _ f5
  obtain ⟨⟨x0, x1, y4, kc0, kc1⟩, -⟩ := sk
  have HB4 : Hid (BW w0.heap.size b (t ++ ([105, 102, 32] ++ showE e ++ showK bb)) _) := Lib.hid (by have h := hb5; simp only [← List.append_assoc] at h ⊢; exact h)
  have F4 := Lib.hid (F2.out.trans f5)
  go_wp2_with fail
  (try simp only [Exit.inBlock, Exit.then])
  exact bodyPost_end (v := .tuple #[]) (by simp [results, Tryd.results68, go_sem]) rfl ⟨rfl, HB4.out, F4.out⟩
set_option maxRecDepth 100000 in
set_option maxHeartbeats 16000000 in
theorem pst_ifelse (Q : List UInt8 → Prop) (nd : List Nd) (fs : List Fnc) (A A' : Option Addr) (m k c c' : Nat) (hm : m = nd.length) (w0 : World) (hw0 : ShW w0) (hT0 : TreeR 0 w0 A A' nd fs) (b : Nat) (e : Ex) (bb b2 : Bl) (hc0 : PXC Q nd fs A A' m k c c' e) (hc1 : PBC Q nd A A' m k c c' w0 b bb) (hc2 : PBC Q nd A A' m k c c' w0 b b2) : PSC Q nd A A' m k c c' w0 b (.ifelse e bb b2) := by
  intro i t w kk nn ln nm l a ll cc hB hD hat hR hro hll hlen
  unfold RepS at hR
  obtain ⟨xa, xb, ys, xc, zs, ha, hx0, hb1, hb2, hb3, hb4⟩ := hR
  obtain ⟨rfl, rfl, rfl, rfl⟩ := ha.inj hat
  replace hll : ll = 3 := hll
  subst hll
  have hx1 : ∃ ys, At nd xb 18 0 [] ys ∧ RepB Q nd bb ys := ⟨ys, hb1, hb2⟩
  have hx2 : ∃ ys, At nd xc 18 0 [] ys ∧ RepB Q nd b2 ys := ⟨zs, hb3, hb4⟩
  clear hb1 hb2 hb3 hb4
  have HV0 := Lib.hid hx0
  clear hx0
  have HV1 := Lib.hid hx1
  clear hx1
  have HV2 := Lib.hid hx2
  clear hx2
  have HB := Lib.hid hB
  have HD := Lib.hid hD
  have HW0 := Lib.hid hw0
  have HT0 := Lib.hid hT0
  have HC0 := Lib.hid hc0
  clear hc0
  have HC1 := Lib.hid hc1
  clear hc1
  have HC2 := Lib.hid hc2
  clear hc2
  obtain ⟨b0, o0, rfl, kw0⟩ := hro.get (k := 0) (by simp) (x := xa) rfl
  obtain ⟨b1, o1, ea1, kw1⟩ := hro.get (k := 1) (by simp) (x := xb) rfl
  cases ea1
  obtain ⟨b2, o2, ea2, kw2⟩ := hro.get (k := 2) (by simp) (x := xc) rfl
  cases ea2
  have hS : showS (.ifelse e bb b2) = [105, 102, 32] ++ showE e ++ showK bb ++ [101, 108, 115, 101] ++ showK b2 := by unfold showS showK; simp
  rw [hS] at hlen ⊢
  simp only [List.length_append] at hlen
  have HLEN := Lib.hid hlen
  have KW0 := Lib.hid kw0
  have KW1 := Lib.hid kw1
  have KW2 := Lib.hid kw2
  clear hB hD hat ha hro hlen hS hw0 hT0 hm kw0 kw1 kw2
  go_enter Tryd.func68, Tryd.ntmps68
  go_upto_region 1 with fail
  obtain ⟨P1, hP1⟩ : ∃ X, X = w.heap.size := ⟨_, rfl⟩
  obtain ⟨w1, hw1⟩ : ∃ w1, w1 = w.alloc (.cells #[.slice A m c, .slice A' k c'] 27) := ⟨_, rfl⟩
  have ka := Keeps.one w (.cells #[.slice A m c, .slice A' k c'] 27)
  have hx1 : LocH w1 P1 [.slice A m c, .slice A' k c'] 27 := by rw [hw1, hP1]; exact LocH.new w [.slice A m c, .slice A' k c'] 27
  have hs1 : w1.heap.size = P1 + 1 := by rw [hw1, hP1, World.size_alloc]
  have hbl := HB.out.lt
  have hne1 : P1 ≠ b := by omega
  rw [← hP1]
  rw [← hw1] at ka ⊢
  obtain ⟨P2, hP2⟩ : ∃ X, X = w1.heap.size := ⟨_, rfl⟩
  have hne2 : P2 ≠ b := by omega
  obtain ⟨w2, hw2⟩ : ∃ w2, w2 = w1.alloc (.cells #[.int .i64 15, .int .i64 ln, .int .i64 0, .string (ofL []), .slice (some ⟨b0, o0, none⟩) 3 cc] 33) := ⟨_, rfl⟩
  have kb := Keeps.one w1 (.cells #[.int .i64 15, .int .i64 ln, .int .i64 0, .string (ofL []), .slice (some ⟨b0, o0, none⟩) 3 cc] 33)
  have hy2 : LocH w2 P2 [.int .i64 15, .int .i64 ln, .int .i64 0, .string (ofL []), .slice (some ⟨b0, o0, none⟩) 3 cc] 33 := by rw [hw2, hP2]; exact LocH.new w1 [.int .i64 15, .int .i64 ln, .int .i64 0, .string (ofL []), .slice (some ⟨b0, o0, none⟩) 3 cc] 33
  rw [← hw2] at kb ⊢
  (try rw [← hs1])
  (try rw [← hP2])
  have hB1 : w0.heap.size ≤ w1.heap.size := by have := HB.out.1; omega
  have HX2 := Lib.hid (hx1.keep (FrB.ofKeeps (b := b) kb hB1) hne1 (by decide))
  have HY2 := Lib.hid hy2
  have K2 := Lib.hid (ka.trans kb (fun _ _ h => h))
  have F2 : Hid (FrB w0.heap.size b w w2) := Lib.hid (FrB.ofKeeps K2.out HB.out.1)
  have HB2 := Lib.hid (HB.out.keep K2.out)
  have D2 := Lib.hid (below_trans HD.out F2.out.below)
  have HNE1 := Lib.hid hne1
  have HNE2 := Lib.hid hne2
  clear ka kb hw1 hw2 hP1 hP2 hs1 hx1 hy2 hbl hne1 hne2 hB1 HB HD
  have SK : Hid (∀ w', FrB w0.heap.size b w2 w' → (w'.cell? ⟨P1, 0, none⟩ = some (.slice A m c) ∧ w'.cell? ⟨P1, 1, none⟩ = some (.slice A' k c') ∧ w'.cell? ⟨P2, 4, none⟩ = some (.slice (some ⟨b0, o0, none⟩) 3 cc) ∧ w'.cell? ⟨b0, o0, none⟩ = some (.int .i64 xa) ∧ w'.cell? ⟨b0, (o0 + 1), none⟩ = some (.int .i64 xb) ∧ w'.cell? ⟨b0, (o0 + 2), none⟩ = some (.int .i64 xc)) ∧ FrB w0.heap.size b w2 w') := Lib.hid (fun w' q => ⟨⟨(HX2.out.keep q HNE1.out (by decide)).cell 0 _ rfl, (HX2.out.keep q HNE1.out (by decide)).cell 1 _ rfl, (HY2.out.keep q HNE2.out (by decide)).cell 4 _ rfl, ((FrB.back (below_trans D2.out q.below)).cell (cell_ltk KW0.out) (fun h => h)).trans KW0.out, ((FrB.back (below_trans D2.out q.below)).cell (cell_ltk KW1.out) (fun h => h)).trans KW1.out, ((FrB.back (below_trans D2.out q.below)).cell (cell_ltk KW2.out) (fun h => h)).trans KW2.out⟩, q⟩)
  have f2 : FrB w0.heap.size b w2 w2 := FrB.refl _ _ _
  have hb2 := HB2.out
  have y0 := HY2.out.cell 0 _ rfl
  obtain ⟨T0, hT0_⟩ : ∃ S, S = ofL (showE e) := ⟨_, rfl⟩
  have HT0_ := Lib.hid hT0_
  have CH : Hid (∀ w', FrB w0.heap.size b w2 w' → BW w0.heap.size b t w' → Calls Tryd.prog 20 #[.agg #[.slice A m c, .slice A' k c'], .int .i64 xa] w' fun r w'' => r = .returned (.string T0) ∧ BW w0.heap.size b t w'' ∧ FrB w0.heap.size b w2 w'') := Lib.hid (fun w' q hb => by
    rw [HT0_.out]
    have kk := FrB.back (below_trans D2.out q.below)
    exact (HC0.out xa w' (HW0.out.keep kk) (HT0.out.keep kk) HV0.out).mono fun r w'' ⟨h1, h2⟩ => ⟨h1, hb.keep h2, q.trans (FrB.ofKeeps h2 hb.1)⟩)
  have q1 : ¬ 9223372036854775807 < 3 + T0.size := by have := HLEN.out; rw [hT0_, ofL_size]; omega
  have WH : Hid (∀ w', FrB w0.heap.size b w2 w' → BW w0.heap.size b t w' → Calls Tryd.prog 36 #[.pointer (some ⟨b, 0, none⟩), .string (({ data := #[105, 102, 32] } : ByteArray) ++ T0)] w' fun r w'' => r = .returned (.tuple #[.int .i64 ((({ data := #[105, 102, 32] } : ByteArray) ++ T0).size : Nat), .nilIface]) ∧ BW w0.heap.size b (t ++ ([105, 102, 32] ++ showE e)) w'' ∧ FrB w0.heap.size b w2 w'') := Lib.hid (fun w' q hb => by
    have e1 : (({ data := #[105, 102, 32] } : ByteArray) ++ T0).data.toList = [105, 102, 32] ++ showE e := by rw [bap_list, HT0_.out, ofL_list]
    refine (ws_any w0.heap.size b t (({ data := #[105, 102, 32] } : ByteArray) ++ T0) w' hb (by rw [← len_size, e1]; have := HLEN.out; rw [List.length_append]; have e2 : ([105, 102, 32] : List UInt8).length = 3 := rfl; omega)).mono fun r w'' ⟨h1, h2, h3⟩ => ⟨h1, ?_, q.trans h3⟩
    rw [e1] at h2
    exact h2)
  have BC1 : Hid (∀ w', FrB w0.heap.size b w2 w' → BW w0.heap.size b (t ++ ([105, 102, 32] ++ showE e)) w' → Calls Tryd.prog 38 #[.pointer (some ⟨b, 0, none⟩), .agg #[.slice A m c, .slice A' k c'], .int .i64 xb] w' fun r w'' => r = .returned (.tuple #[]) ∧ BW w0.heap.size b (t ++ ([105, 102, 32] ++ showE e) ++ showK bb) w'' ∧ FrB w0.heap.size b w2 w'') := Lib.hid (fun w' q hb => (HC1.out xb _ w' hb (below_trans D2.out q.below) HV1.out (by have := HLEN.out; simp only [List.length_append]; omega)).mono fun r w'' ⟨h1, h2, h3⟩ => ⟨h1, h2, q.trans h3⟩)
  have WE : Hid (∀ w', FrB w0.heap.size b w2 w' → BW w0.heap.size b (t ++ ([105, 102, 32] ++ showE e) ++ showK bb) w' → Calls Tryd.prog 36 #[.pointer (some ⟨b, 0, none⟩), .string { data := #[101, 108, 115, 101] }] w' fun r w'' => r = .returned (.tuple #[.int .i64 (({ data := #[101, 108, 115, 101] } : ByteArray).size : Nat), .nilIface]) ∧ BW w0.heap.size b (t ++ ([105, 102, 32] ++ showE e) ++ showK bb ++ [101, 108, 115, 101]) w'' ∧ FrB w0.heap.size b w2 w'') := Lib.hid (fun w' q hb => (ws_any w0.heap.size b _ { data := #[101, 108, 115, 101] } w' hb (by have := HLEN.out; simp only [List.length_append]; have e2 : ({ data := #[101, 108, 115, 101] } : ByteArray).size = 4 := rfl; omega)).mono fun r w'' ⟨h1, h2, h3⟩ => ⟨h1, h2, q.trans h3⟩)
  have BC2 : Hid (∀ w', FrB w0.heap.size b w2 w' → BW w0.heap.size b (t ++ ([105, 102, 32] ++ showE e) ++ showK bb ++ [101, 108, 115, 101]) w' → Calls Tryd.prog 38 #[.pointer (some ⟨b, 0, none⟩), .agg #[.slice A m c, .slice A' k c'], .int .i64 xc] w' fun r w'' => r = .returned (.tuple #[]) ∧ BW w0.heap.size b (t ++ ([105, 102, 32] ++ showE e) ++ showK bb ++ [101, 108, 115, 101] ++ showK b2) w'' ∧ FrB w0.heap.size b w2 w'') := Lib.hid (fun w' q hb => (HC2.out xc _ w' hb (below_trans D2.out q.below) HV2.out (by have := HLEN.out; simp only [List.length_append]; omega)).mono fun r w'' ⟨h1, h2, h3⟩ => ⟨h1, h2, q.trans h3⟩)
  clear hT0_
  go_upto_region 4 with fail
  go_region_held3 (fun w' => (w'.cell? ⟨P1, 0, none⟩ = some (.slice A m c) ∧ w'.cell? ⟨P1, 1, none⟩ = some (.slice A' k c') ∧ w'.cell? ⟨P2, 4, none⟩ = some (.slice (some ⟨b0, o0, none⟩) 3 cc) ∧ w'.cell? ⟨b0, o0, none⟩ = some (.int .i64 xa) ∧ w'.cell? ⟨b0, (o0 + 1), none⟩ = some (.int .i64 xb) ∧ w'.cell? ⟨b0, (o0 + 2), none⟩ = some (.int .i64 xc)) ∧ FrB w0.heap.size b w2 w') (first | exact SK.out _ (by assumption) | exact SK.out _ (FrB.drew (by assumption))) (first | (go_at_call 20; refine (CH.out _ (by first | assumption | exact FrB.drew (by assumption)) (by first | assumption | exact BW.drew (by assumption))).mono ?_; rintro r w4 ⟨rfl, hb4, f4⟩) | (go_at_call 36; refine (WH.out _ (by first | assumption | exact FrB.drew (by assumption)) (by first | assumption | exact BW.drew (by assumption))).mono ?_; rintro r w4 ⟨rfl, hb4, f4⟩))
  go_upto_region 5 with fail
  go_region_held3 (fun w' => (w'.cell? ⟨P1, 0, none⟩ = some (.slice A m c) ∧ w'.cell? ⟨P1, 1, none⟩ = some (.slice A' k c') ∧ w'.cell? ⟨P2, 4, none⟩ = some (.slice (some ⟨b0, o0, none⟩) 3 cc) ∧ w'.cell? ⟨b0, o0, none⟩ = some (.int .i64 xa) ∧ w'.cell? ⟨b0, (o0 + 1), none⟩ = some (.int .i64 xb) ∧ w'.cell? ⟨b0, (o0 + 2), none⟩ = some (.int .i64 xc)) ∧ FrB w0.heap.size b w2 w') (first | exact SK.out _ (by assumption) | exact SK.out _ (FrB.drew (by assumption))) (first | (go_at_call 38; refine (BC1.out _ (by first | assumption | exact FrB.drew (by assumption)) (by first | assumption | exact BW.drew (by assumption))).mono ?_; rintro r w5 ⟨rfl, hb5, f5⟩))
  have sk := SK.out _ f5
  obtain ⟨⟨x0, x1, y4, kc0, kc1, kc2⟩, -⟩ := sk
  go_upto_region 7 with fail
  clear x0 x1 y4 kc0 kc1 kc2
  go_wp2_with fail
  refine (WE.out _ (by assumption) (by assumption)).mono ?_
  rintro r w6 ⟨rfl, hb6, f6⟩
  go_upto_region 8 with fail
  go_region_held3 (fun w' => (w'.cell? ⟨P1, 0, none⟩ = some (.slice A m c) ∧ w'.cell? ⟨P1, 1, none⟩ = some (.slice A' k c') ∧ w'.cell? ⟨P2, 4, none⟩ = some (.slice (some ⟨b0, o0, none⟩) 3 cc) ∧ w'.cell? ⟨b0, o0, none⟩ = some (.int .i64 xa) ∧ w'.cell? ⟨b0, (o0 + 1), none⟩ = some (.int .i64 xb) ∧ w'.cell? ⟨b0, (o0 + 2), none⟩ = some (.int .i64 xc)) ∧ FrB w0.heap.size b w2 w') (first | exact SK.out _ (by assumption) | exact SK.out _ (FrB.drew (by assumption))) (first | (go_at_call 38; refine (BC2.out _ (by first | assumption | exact FrB.drew (by assumption)) (by first | assumption | exact BW.drew (by assumption))).mono ?_; rintro r w7 ⟨rfl, hb7, f7⟩))
  have HB4 : Hid (BW w0.heap.size b (t ++ ([105, 102, 32] ++ showE e ++ showK bb ++ [101, 108, 115, 101] ++ showK b2)) _) := Lib.hid (by have h := hb7; simp only [← List.append_assoc] at h ⊢; exact h)
  have F4 := Lib.hid (F2.out.trans f7)
  go_wp2_with fail
  (try simp only [Exit.inBlock, Exit.then])
  exact bodyPost_end (v := .tuple #[]) (by simp [results, Tryd.results68, go_sem]) rfl ⟨rfl, HB4.out, F4.out⟩
end Go.Proofs.YtgelggdgbmldiaaDoor

namespace Go.Proofs.YtgelggdgbmldiaaDoor
open Go Go.RowKit Go.Shelf
set_option linter.unusedVariables false
set_option linter.unusedSimpArgs false
mutual
theorem pst_all (Q : List UInt8 → Prop) (nd : List Nd) (fs : List Fnc) (A A' : Option Addr) (m k c c' : Nat) (hm : m = nd.length) (w0 : World) (hw0 : ShW w0) (hT0 : TreeR 0 w0 A A' nd fs) (b : Nat) : ∀ s : Stm, massS s ≤ 800000 → PSC Q nd A A' m k c c' w0 b s
  | .lt s r, h => fun i t w kk nn ln nm l2 a ll cc hB hD hat hR hro hll hlen => by
    unfold massS at h
    have hR2 := hR
    unfold RepS at hR2
    obtain ⟨x, _, _, h3⟩ := hR2
    have := showR_len r x h3
    exact pst_simple Q nd fs A A' m k c c' hm w0 hw0 hT0 b _ (by unfold showS shortS; simp) (fun i kk nn nm l h1 h2 => by
      unfold RepS at h2
      first
        | (obtain ⟨_, h3, _⟩ := h2; have h4 := (h1.inj h3).1; omega)
        | (obtain ⟨_, _, h3, _⟩ := h2; have h4 := (h1.inj h3).1; omega)
        | (have h4 := (h1.inj h2).1; omega)) (ps_lt Q nd fs A A' m k c c' hm s r (by omega) (pright_all Q nd fs A A' m k c c' hm r (by omega)) (by omega)) i t w kk nn ln nm l2 a ll cc hB hD hat hR hro hll hlen
  | .set s r, h => fun i t w kk nn ln nm l2 a ll cc hB hD hat hR hro hll hlen => by
    unfold massS at h
    have hR2 := hR
    unfold RepS at hR2
    obtain ⟨x, _, _, h3⟩ := hR2
    have := showR_len r x h3
    exact pst_simple Q nd fs A A' m k c c' hm w0 hw0 hT0 b _ (by unfold showS shortS; simp) (fun i kk nn nm l h1 h2 => by
      unfold RepS at h2
      first
        | (obtain ⟨_, h3, _⟩ := h2; have h4 := (h1.inj h3).1; omega)
        | (obtain ⟨_, _, h3, _⟩ := h2; have h4 := (h1.inj h3).1; omega)
        | (have h4 := (h1.inj h2).1; omega)) (ps_set Q nd fs A A' m k c c' hm s r (by omega) (pright_all Q nd fs A A' m k c c' hm r (by omega)) (by omega)) i t w kk nn ln nm l2 a ll cc hB hD hat hR hro hll hlen
  | .put s e f, h => fun i t w kk nn ln nm l2 a ll cc hB hD hat hR hro hll hlen => by
    unfold massS at h
    have hR2 := hR
    unfold RepS at hR2
    obtain ⟨x, y, _, _, h3, h4⟩ := hR2
    have := show_len e x h3
    have := show_len f y h4
    exact pst_simple Q nd fs A A' m k c c' hm w0 hw0 hT0 b _ (by unfold showS shortS; simp) (fun i kk nn nm l h1 h2 => by
      unfold RepS at h2
      first
        | (obtain ⟨_, h3, _⟩ := h2; have h4 := (h1.inj h3).1; omega)
        | (obtain ⟨_, _, h3, _⟩ := h2; have h4 := (h1.inj h3).1; omega)
        | (have h4 := (h1.inj h2).1; omega)) (ps_put Q nd fs A A' m k c c' hm s e f (by omega) (pexpr_all Q nd fs A A' m k c c' hm e (by omega)) (by omega) (pexpr_all Q nd fs A A' m k c c' hm f (by omega)) (by omega)) i t w kk nn ln nm l2 a ll cc hB hD hat hR hro hll hlen
  | .doo s l, h => fun i t w kk nn ln nm l2 a ll cc hB hD hat hR hro hll hlen => by
    unfold massS at h
    have hR2 := hR
    unfold RepS at hR2
    obtain ⟨x, _, h3⟩ := hR2
    have := showR_len _ x h3
    have e : massR (.call s l) = massEs l + (s.length + 60) := rfl
    exact pst_simple Q nd fs A A' m k c c' hm w0 hw0 hT0 b _ (by unfold showS shortS; simp) (fun i kk nn nm l h1 h2 => by
      unfold RepS at h2
      first
        | (obtain ⟨_, h3, _⟩ := h2; have h4 := (h1.inj h3).1; omega)
        | (obtain ⟨_, _, h3, _⟩ := h2; have h4 := (h1.inj h3).1; omega)
        | (have h4 := (h1.inj h2).1; omega)) (ps_doo Q nd fs A A' m k c c' hm s l (pright_all Q nd fs A A' m k c c' hm (.call s l) (by omega)) (by omega)) i t w kk nn ln nm l2 a ll cc hB hD hat hR hro hll hlen
  | .print e, h => fun i t w kk nn ln nm l2 a ll cc hB hD hat hR hro hll hlen => by
    unfold massS at h
    have hR2 := hR
    unfold RepS at hR2
    obtain ⟨x, _, h3⟩ := hR2
    have := show_len e x h3
    exact pst_simple Q nd fs A A' m k c c' hm w0 hw0 hT0 b _ (by unfold showS shortS; simp) (fun i kk nn nm l h1 h2 => by
      unfold RepS at h2
      first
        | (obtain ⟨_, h3, _⟩ := h2; have h4 := (h1.inj h3).1; omega)
        | (obtain ⟨_, _, h3, _⟩ := h2; have h4 := (h1.inj h3).1; omega)
        | (have h4 := (h1.inj h2).1; omega)) (ps_print Q nd fs A A' m k c c' hm e (pexpr_all Q nd fs A A' m k c c' hm e (by omega)) (by omega)) i t w kk nn ln nm l2 a ll cc hB hD hat hR hro hll hlen
  | .ret1 e, h => fun i t w kk nn ln nm l2 a ll cc hB hD hat hR hro hll hlen => by
    unfold massS at h
    have hR2 := hR
    unfold RepS at hR2
    obtain ⟨x, _, h3⟩ := hR2
    have := show_len e x h3
    exact pst_simple Q nd fs A A' m k c c' hm w0 hw0 hT0 b _ (by unfold showS shortS; simp) (fun i kk nn nm l h1 h2 => by
      unfold RepS at h2
      first
        | (obtain ⟨_, h3, _⟩ := h2; have h4 := (h1.inj h3).1; omega)
        | (obtain ⟨_, _, h3, _⟩ := h2; have h4 := (h1.inj h3).1; omega)
        | (have h4 := (h1.inj h2).1; omega)) (ps_ret1 Q nd fs A A' m k c c' hm e (pexpr_all Q nd fs A A' m k c c' hm e (by omega)) (by omega)) i t w kk nn ln nm l2 a ll cc hB hD hat hR hro hll hlen
  | .ret0, h => fun i t w kk nn ln nm l2 a ll cc hB hD hat hR hro hll hlen => by
    unfold massS at h
    have hR2 := hR
    unfold RepS at hR2
    exact pst_simple Q nd fs A A' m k c c' hm w0 hw0 hT0 b _ (by unfold showS shortS; simp) (fun i kk nn nm l h1 h2 => by
      unfold RepS at h2
      first
        | (obtain ⟨_, h3, _⟩ := h2; have h4 := (h1.inj h3).1; omega)
        | (obtain ⟨_, _, h3, _⟩ := h2; have h4 := (h1.inj h3).1; omega)
        | (have h4 := (h1.inj h2).1; omega)) (ps_ret0 Q nd fs A A' m k c c' hm) i t w kk nn ln nm l2 a ll cc hB hD hat hR hro hll hlen
  | .ifs e x, h => by
    unfold massS at h
    exact pst_ifs Q nd fs A A' m k c c' hm w0 hw0 hT0 b e x (pexpr_all Q nd fs A A' m k c c' hm e (by omega)) (pblock_any Q nd fs A A' m k c c' hm w0 hw0 hT0 b x (pbl_all Q nd fs A A' m k c c' hm w0 hw0 hT0 b x (by omega)))
  | .ifelse e x y, h => by
    unfold massS at h
    exact pst_ifelse Q nd fs A A' m k c c' hm w0 hw0 hT0 b e x y (pexpr_all Q nd fs A A' m k c c' hm e (by omega)) (pblock_any Q nd fs A A' m k c c' hm w0 hw0 hT0 b x (pbl_all Q nd fs A A' m k c c' hm w0 hw0 hT0 b x (by omega))) (pblock_any Q nd fs A A' m k c c' hm w0 hw0 hT0 b y (pbl_all Q nd fs A A' m k c c' hm w0 hw0 hT0 b y (by omega)))
  | .whil e x, h => by
    unfold massS at h
    exact pst_whil Q nd fs A A' m k c c' hm w0 hw0 hT0 b e x (pexpr_all Q nd fs A A' m k c c' hm e (by omega)) (pblock_any Q nd fs A A' m k c c' hm w0 hw0 hT0 b x (pbl_all Q nd fs A A' m k c c' hm w0 hw0 hT0 b x (by omega)))
theorem pbl_all (Q : List UInt8 → Prop) (nd : List Nd) (fs : List Fnc) (A A' : Option Addr) (m k c c' : Nat) (hm : m = nd.length) (w0 : World) (hw0 : ShW w0) (hT0 : TreeR 0 w0 A A' nd fs) (b : Nat) : ∀ x : Bl, massB x ≤ 800000 → ∀ s ∈ blL x, PSC Q nd A A' m k c c' w0 b s
  | .nil, h => fun s hs => by cases hs
  | .cons s x, h => fun s' hs => by
    unfold massB at h
    rcases List.mem_cons.1 hs with h1 | h1
    · rw [h1]
      exact pst_all Q nd fs A A' m k c c' hm w0 hw0 hT0 b s (by omega)
    · exact pbl_all Q nd fs A A' m k c c' hm w0 hw0 hT0 b x (by omega) s' h1
end
theorem pblock_all (Q : List UInt8 → Prop) (nd : List Nd) (fs : List Fnc) (A A' : Option Addr) (m k c c' : Nat) (hm : m = nd.length) (w0 : World) (hw0 : ShW w0) (hT0 : TreeR 0 w0 A A' nd fs) (b : Nat) (x : Bl) (h : massB x ≤ 800000) : PBC Q nd A A' m k c c' w0 b x := pblock_any Q nd fs A A' m k c c' hm w0 hw0 hT0 b x (pbl_all Q nd fs A A' m k c c' hm w0 hw0 hT0 b x h)
end Go.Proofs.YtgelggdgbmldiaaDoor

namespace Go.Proofs.YtgelggdgbmldiaaDoor
open Go Go.RowKit Go.Shelf
set_option linter.unusedVariables false
set_option linter.unusedSimpArgs false
def paramL (p : List UInt8 × Int) : List UInt8 := p.1 ++ [32] ++ wordL p.2
def joinX : List (List UInt8) → List UInt8
  | [] => []
  | [x] => x
  | x :: y :: l => x ++ 44 :: joinX (y :: l)
theorem joinX_more : ∀ (l : List (List UInt8)) (e : List UInt8), joinX (l ++ [e]) = (if l = [] then [] else joinX l ++ [44]) ++ e
  | [], e => rfl
  | [f], e => by
    show f ++ 44 :: joinX [e] = (if [f] = [] then [] else joinX [f] ++ [44]) ++ e
    rw [if_neg (by simp)]
    show f ++ 44 :: e = (f ++ [44]) ++ e
    simp
  | f :: h :: l, e => by
    have ih := joinX_more (h :: l) e
    rw [if_neg (by simp)] at ih
    rw [if_neg (by simp)]
    show f ++ 44 :: joinX ((h :: l) ++ [e]) = ((f ++ 44 :: joinX (h :: l)) ++ [44]) ++ e
    rw [ih]
    simp
theorem params_next {l : List (List UInt8 × Int)} {j : Nat} (h : j < l.length) : joinX ((l.take (j + 1)).map paramL) = (if j = 0 then [] else joinX ((l.take j).map paramL) ++ [44]) ++ paramL l[j] := by
  rw [List.take_succ_eq_append_getElem h, List.map_append]
  show joinX ((l.take j).map paramL ++ [paramL l[j]]) = _
  rw [joinX_more]
  by_cases h0 : j = 0
  · subst h0
    rfl
  · rw [if_neg h0, if_neg (fun h1 => by
      have := congrArg List.length h1
      rw [List.length_map, List.length_take, List.length_nil] at this
      omega)]
theorem joinX_pre : ∀ (l : List (List UInt8)) (i : Nat), (joinX (l.take i)).length ≤ (joinX l).length
  | [], i => by simp
  | [x], 0 => Nat.zero_le _
  | [x], i + 1 => by simp
  | x :: y :: l, 0 => Nat.zero_le _
  | x :: y :: l, 1 => by show x.length ≤ (x ++ 44 :: joinX (y :: l)).length; rw [List.length_append]; omega
  | x :: y :: l, i + 2 => by
    have := joinX_pre (y :: l) (i + 1)
    show (x ++ 44 :: joinX (y :: l.take i)).length ≤ (x ++ 44 :: joinX (y :: l)).length
    have e : (y :: l).take (i + 1) = y :: l.take i := rfl
    rw [e] at this
    rw [List.length_append, List.length_append, List.length_cons, List.length_cons]
    omega
def textF (p : Fnc × Bl) : List UInt8 := [102, 110, 32] ++ p.1.s ++ [40] ++ joinX (p.1.ps.map paramL) ++ [41] ++ wordL p.1.ret ++ showK p.2
def textT (l : List (Fnc × Bl)) : List UInt8 := l.flatMap textF
theorem textT_next {l : List (Fnc × Bl)} {i : Nat} (h : i < l.length) : textT (l.take (i + 1)) = textT (l.take i) ++ textF l[i] := by
  unfold textT
  rw [List.take_succ_eq_append_getElem h, List.flatMap_append]
  simp
theorem textT_le (l : List (Fnc × Bl)) (i : Nat) : (textT (l.take i)).length ≤ (textT l).length := by
  unfold textT
  have : l.flatMap textF = (l.take i).flatMap textF ++ (l.drop i).flatMap textF := by rw [← List.flatMap_append, List.take_append_drop]
  rw [this, List.length_append]
  omega
end Go.Proofs.YtgelggdgbmldiaaDoor
