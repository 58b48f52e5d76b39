/-
  Layer 22: the walk of WordsOnce. Written by an AI agent (wpc.py).
-/
import Derived.Test.YtoombjbpblighabDoorWpA
import Derived.Test.YtoombjbpblighabDoorWpB
namespace Go.Proofs.YtoombjbpblighabDoor
open Go Go.RowKit Go.Shelf
set_option linter.unusedVariables false
set_option linter.unusedSimpArgs false
set_option maxRecDepth 100000

def shortC (c : Cm) : Cm := ⟨(cutB 30 (ofL c.verb)).data.toList, (cutB 30 (ofL c.a)).data.toList, (cutB 30 (ofL c.b)).data.toList, c.n, ⟨c.v.ty, c.v.n, (cutB 60 (ofL c.v.s)).data.toList⟩⟩
theorem short_sz (c : Cm) (h1 : Rng c.n) (h2 : Rng c.v.n) : SzC (shortC c) := by
  have h : ∀ n x, n ≤ 60 → (cutB n x).data.toList.length ≤ 10000 := fun n x hn => by rw [len_size]; have := cutB_size n x; omega
  exact ⟨h 30 _ (by omega), h 30 _ (by omega), h 30 _ (by omega), h 60 _ (by omega), h1, h2⟩
theorem short_cm (c : Cm) (w : World) : Calls Tryd.prog 8 #[cmdV c] w fun e w' => e = .returned (cmdV (shortC c)) ∧ Keeps (fun _ => False) w w' :=
  (short22_any (ofL c.verb) (ofL c.a) (ofL c.b) (ofL c.v.s) c.n c.v.ty c.v.n w).mono fun e w' h => ⟨by
    rw [h.1, cmdV, shortC]
    simp only [ofL_self], h.2⟩
theorem keep7p {w : World} (p : Nat) (a b c d e f g : Value) : Keeps (fun q => q = p) w (((((((w.setCell ⟨p, 0, none⟩ a).setCell ⟨p, 1, none⟩ b).setCell ⟨p, 2, none⟩ c).setCell ⟨p, 3, none⟩ d).setCell ⟨p, 4, none⟩ e).setCell ⟨p, 5, none⟩ f).setCell ⟨p, 6, none⟩ g) :=
  ((((((Keeps.refl (fun q => q = p) w).setCell (p := ⟨p, 0, none⟩) (fun _ => rfl) a).setCell (p := ⟨p, 1, none⟩) (fun _ => rfl) b).setCell (p := ⟨p, 2, none⟩) (fun _ => rfl) c).setCell (p := ⟨p, 3, none⟩) (fun _ => rfl) d).setCell (p := ⟨p, 4, none⟩) (fun _ => rfl) e).setCell (p := ⟨p, 5, none⟩) (fun _ => rfl) f |>.setCell (p := ⟨p, 6, none⟩) (fun _ => rfl) g
set_option maxHeartbeats 16000000 in
theorem once_walk (c d : Cm) (hc1 : Rng c.n) (hc2 : Rng c.v.n) (hd1 : Rng d.n) (hd2 : Rng d.v.n) (w : World) (hw : WordW w) : Calls Tryd.prog 3 #[cmdV c, cmdV d] w fun e w' => e = .returned (.bool true) ∧ Keeps (fun _ => False) w w' := by
  have hsz := short_sz c hc1 hc2
  have hsz' := short_sz d hd1 hd2
  have SC : Hid (∀ wq, Calls Tryd.prog 8 #[.agg #[.string (ofL c.verb), .string (ofL c.a), .string (ofL c.b), .int .i64 c.n, .int .i64 c.v.ty, .int .i64 c.v.n, .string (ofL c.v.s)]] wq fun e w' => e = .returned (cmdV (shortC c)) ∧ Keeps (fun _ => False) wq w') := Lib.hid fun wq => short_cm c wq
  have SD : Hid (∀ wq, Calls Tryd.prog 8 #[.agg #[.string (ofL d.verb), .string (ofL d.a), .string (ofL d.b), .int .i64 d.n, .int .i64 d.v.ty, .int .i64 d.v.n, .string (ofL d.v.s)]] wq fun e w' => e = .returned (cmdV (shortC d)) ∧ Keeps (fun _ => False) wq w') := Lib.hid fun wq => short_cm d wq
  obtain ⟨x, hx⟩ : ∃ x, x = shortC c := ⟨_, rfl⟩
  obtain ⟨y, hy⟩ : ∃ y, y = shortC d := ⟨_, rfl⟩
  rw [← hx] at hsz SC
  rw [← hy] at hsz' SD
  have LX : Hid (∀ wq, WordW wq → Calls Tryd.prog 9 #[.agg #[.string (ofL x.verb), .string (ofL x.a), .string (ofL x.b), .int .i64 x.n, .int .i64 x.v.ty, .int .i64 x.v.n, .string (ofL x.v.s)]] wq fun e w' => LineE x wq e w') := Lib.hid fun wq h => line_any x hsz wq h
  have LY : Hid (∀ wq, WordW wq → Calls Tryd.prog 9 #[.agg #[.string (ofL y.verb), .string (ofL y.a), .string (ofL y.b), .int .i64 y.n, .int .i64 y.v.ty, .int .i64 y.v.n, .string (ofL y.v.s)]] wq fun e w' => LineE y wq e w') := Lib.hid fun wq h => line_any y hsz' wq h
  have HW := Lib.hid hw
  clear hsz hsz' hx hy hw hc1 hc2 hd1 hd2
  unfold cmdV at SC SD ⊢
  go_enter Tryd.func3, Tryd.ntmps3
  go_wp2_with fail
  generalize hwA : (World.alloc _ _) = wA
  have hC : CmdAt wA w.heap.size c := by rw [← hwA]; exact (CmdAt.fresh w c).keep (Q := fun _ => False) ((Keeps.refl (fun _ => False) _).alloc _) (fun h => h)
  have hD : CmdAt wA (w.heap.size + 1) d := by
    have h := CmdAt.fresh (w.alloc (.cells #[.string (ofL c.verb), .string (ofL c.a), .string (ofL c.b), .int .i64 c.n, .int .i64 c.v.ty, .int .i64 c.v.n, .string (ofL c.v.s)] 25)) d
    rw [show (w.alloc (.cells #[.string (ofL c.verb), .string (ofL c.a), .string (ofL c.b), .int .i64 c.n, .int .i64 c.v.ty, .int .i64 c.v.n, .string (ofL c.v.s)] 25)).heap.size = w.heap.size + 1 by simp] at h
    rw [← hwA]
    exact h
  have kA : Keeps (fun _ => False) w wA := by rw [← hwA]; exact ((Keeps.refl _ _).alloc _).alloc _
  obtain ⟨p3, hp3⟩ : ∃ p3, p3 = w.heap.size + 1 := ⟨_, rfl⟩
  rw [← hp3] at hD ⊢
  obtain ⟨p2, hp2⟩ : ∃ p2, p2 = w.heap.size := ⟨_, rfl⟩
  rw [← hp2] at hC ⊢
  have h23 : p2 ≠ p3 := by omega
  have HP2 : Hid (w.heap.size ≤ p2) := Lib.hid (by omega)
  have HP3 : Hid (w.heap.size ≤ p3) := Lib.hid (by omega)
  have SH := Lib.hid (shown22_any wA (HW.out.keep kA))
  clear hwA hp2 hp3
  refine SH.out.mono ?_
  rintro e w1 ⟨rfl, k1⟩
  have KW1 : Hid (Keeps (fun _ => False) w w1) := Lib.hid (kA.trans k1 (fun _ _ h => h))
  have HC1 := Lib.hid (hC.keep k1 (fun h => h))
  have HD1 := Lib.hid (hD.keep k1 (fun h => h))
  clear hC hD kA k1 SH
  have c0 := HC1.out.c0
  have c1 := HC1.out.c1
  have c2 := HC1.out.c2
  have c3 := HC1.out.c3
  have c4 := HC1.out.c4
  have c5 := HC1.out.c5
  have c6 := HC1.out.c6
  have hl := HC1.out.lt
  go_wp2_with fail
  refine (SC.out _).mono ?_
  rintro e v' ⟨rfl, k2⟩
  have HCn := Lib.hid (HC1.out.keep k2 (fun h => h))
  have HOn := Lib.hid (HD1.out.keep k2 (fun h => h))
  have KN := Lib.hid (KW1.out.trans k2 (fun _ _ h => h))
  clear k2 c0 c1 c2 c3 c4 c5 c6 hl SC
  have z0 := HCn.out.c0
  have z1 := HCn.out.c1
  have z2 := HCn.out.c2
  have z3 := HCn.out.c3
  have z4 := HCn.out.c4
  have z5 := HCn.out.c5
  have z6 := HCn.out.c6
  have f0 := HCn.out.f 0 (by omega)
  have f1 := HCn.out.f 1 (by omega)
  have f2 := HCn.out.f 2 (by omega)
  have f3 := HCn.out.f 3 (by omega)
  have f4 := HCn.out.f 4 (by omega)
  have f5 := HCn.out.f 5 (by omega)
  have f6 := HCn.out.f 6 (by omega)
  have hl := HCn.out.lt
  go_upto_region 3 with fail
  generalize hwS : (World.setCell _ _ _) = w3
  have HXw3 : Hid (CmdAt w3 p2 x) := Lib.hid (by rw [← hwS]; exact set7 HCn.out x)
  have HYw3 : Hid (CmdAt w3 p3 d) := Lib.hid (by rw [← hwS]; exact HOn.out.keep (keep7p _ _ _ _ _ _ _ _) (by omega))
  have Kw3 : Hid (Keeps (fun _ => False) w w3) := Lib.hid (by rw [← hwS]; exact keep7 KN.out _ HP2.out _ _ _ _ _ _ _)
  clear hwS z0 z1 z2 z3 z4 z5 z6 f0 f1 f2 f3 f4 f5 f6 hl HCn HOn KN
  have c0 := HYw3.out.c0
  have c1 := HYw3.out.c1
  have c2 := HYw3.out.c2
  have c3 := HYw3.out.c3
  have c4 := HYw3.out.c4
  have c5 := HYw3.out.c5
  have c6 := HYw3.out.c6
  have hl := HYw3.out.lt
  go_wp2_with fail
  refine (SD.out _).mono ?_
  rintro e u' ⟨rfl, k2⟩
  have HCn := Lib.hid (HYw3.out.keep k2 (fun h => h))
  have HOn := Lib.hid (HXw3.out.keep k2 (fun h => h))
  have KN := Lib.hid (Kw3.out.trans k2 (fun _ _ h => h))
  clear k2 c0 c1 c2 c3 c4 c5 c6 hl SD
  have z0 := HCn.out.c0
  have z1 := HCn.out.c1
  have z2 := HCn.out.c2
  have z3 := HCn.out.c3
  have z4 := HCn.out.c4
  have z5 := HCn.out.c5
  have z6 := HCn.out.c6
  have f0 := HCn.out.f 0 (by omega)
  have f1 := HCn.out.f 1 (by omega)
  have f2 := HCn.out.f 2 (by omega)
  have f3 := HCn.out.f 3 (by omega)
  have f4 := HCn.out.f 4 (by omega)
  have f5 := HCn.out.f 5 (by omega)
  have f6 := HCn.out.f 6 (by omega)
  have hl := HCn.out.lt
  go_upto_region 4 with fail
  generalize hwS : (World.setCell _ _ _) = w4
  have HXw4 : Hid (CmdAt w4 p3 y) := Lib.hid (by rw [← hwS]; exact set7 HCn.out y)
  have HYw4 : Hid (CmdAt w4 p2 x) := Lib.hid (by rw [← hwS]; exact HOn.out.keep (keep7p _ _ _ _ _ _ _ _) (by omega))
  have Kw4 : Hid (Keeps (fun _ => False) w w4) := Lib.hid (by rw [← hwS]; exact keep7 KN.out _ HP3.out _ _ _ _ _ _ _)
  clear hwS z0 z1 z2 z3 z4 z5 z6 f0 f1 f2 f3 f4 f5 f6 hl HCn HOn KN
  have c0 := HYw4.out.c0
  have c1 := HYw4.out.c1
  have c2 := HYw4.out.c2
  have c3 := HYw4.out.c3
  have c4 := HYw4.out.c4
  have c5 := HYw4.out.c5
  have c6 := HYw4.out.c6
  have hl := HYw4.out.lt
  go_wp2_with fail
  refine (LX.out _ (HW.out.keep Kw4.out)).mono ?_
  rintro e w5 ⟨⟨s1, x1, rfl, hs1⟩, k5⟩
  have HS1 := Lib.hid hs1
  have HX5 := Lib.hid (HYw4.out.keep k5 (fun h => h))
  have HY5 := Lib.hid (HXw4.out.keep k5 (fun h => h))
  have K5 := Lib.hid (Kw4.out.trans k5 (fun _ _ h => h))
  clear hs1 k5 LX hl c0 c1 c2 c3 c4 c5 c6
  have c0 := HY5.out.c0
  have c1 := HY5.out.c1
  have c2 := HY5.out.c2
  have c3 := HY5.out.c3
  have c4 := HY5.out.c4
  have c5 := HY5.out.c5
  have c6 := HY5.out.c6
  have hl := HY5.out.lt
  go_wp2_with fail
  refine (LY.out _ (HW.out.keep K5.out)).mono ?_
  rintro e w6 ⟨⟨s2, x2, rfl, hs2⟩, k6⟩
  have HX6 := Lib.hid (HX5.out.keep k6 (fun h => h))
  have HY6 := Lib.hid (HY5.out.keep k6 (fun h => h))
  have K6 := Lib.hid (K5.out.trans k6 (fun _ _ h => h))
  have hs1 := HS1.out
  have q0 : (({ data := #[] } : ByteArray).toList == []) = true := by rw [Lib.toList_data]; rfl
  clear k6 LY HS1 hl c0 c1 c2 c3 c4 c5 c6
  cases h1 : lineN x with
  | none =>
    rw [h1] at hs1
    simp only at hs1
    obtain ⟨rfl, rfl⟩ := hs1
    cases h2 : lineN y with
    | none =>
      rw [h2] at hs2
      simp only at hs2
      obtain ⟨rfl, rfl⟩ := hs2
      clear h1 h2
      go_wp2
      go_ret
      exact ⟨rfl, K6.out⟩
    | some l2 =>
      rw [h2] at hs2
      simp only at hs2
      obtain ⟨rfl, rfl⟩ := hs2
      clear h1 h2
      go_wp2
      go_ret
      exact ⟨rfl, K6.out⟩
  | some l1 =>
    rw [h1] at hs1
    simp only at hs1
    obtain ⟨rfl, rfl⟩ := hs1
    cases h2 : lineN y with
    | none =>
      rw [h2] at hs2
      simp only at hs2
      obtain ⟨rfl, rfl⟩ := hs2
      clear h1 h2
      go_wp2
      go_ret
      exact ⟨rfl, K6.out⟩
    | some l2 =>
      rw [h2] at hs2
      simp only at hs2
      obtain ⟨rfl, rfl⟩ := hs2
      have NQ0 := eql25 x y
      unfold cmdV at NQ0
      have hb : (l1 == l2) = x.eqB y := by
        by_cases g : x = y
        · subst g
          rw [h1] at h2
          rw [Option.some.inj h2, (Cm.eqB_iff _ _).2 rfl]
          simp
        · have g1 : x.eqB y = false := by rw [Bool.eq_false_iff]; exact fun h => g ((Cm.eqB_iff _ _).1 h)
          rw [g1, beq_eq_false_iff_ne]
          intro e
          subst e
          exact g (line_inj h1 h2)
      have bq := ofL_beq l1 l2
      rw [hb] at bq
      obtain ⟨b, hbb⟩ : ∃ b, b = x.eqB y := ⟨_, rfl⟩
      rw [← hbb] at NQ0 bq
      clear hb hbb h1 h2 q0
      have c0 := HX6.out.c0
      have c1 := HX6.out.c1
      have c2 := HX6.out.c2
      have c3 := HX6.out.c3
      have c4 := HX6.out.c4
      have c5 := HX6.out.c5
      have c6 := HX6.out.c6
      have g0 := HY6.out.c0
      have g1 := HY6.out.c1
      have g2 := HY6.out.c2
      have g3 := HY6.out.c3
      have g4 := HY6.out.c4
      have g5 := HY6.out.c5
      have g6 := HY6.out.c6
      have hl := HX6.out.lt
      have hl2 := HY6.out.lt
      cases b with
      | false =>
        have NQ : ∀ w, (binOp .eql 25 (.agg #[.string (ofL x.verb), .string (ofL x.a), .string (ofL x.b), .int .i64 x.n, .int .i64 x.v.ty, .int .i64 x.v.n, .string (ofL x.v.s)]) (.agg #[.string (ofL y.verb), .string (ofL y.a), .string (ofL y.b), .int .i64 y.n, .int .i64 y.v.ty, .int .i64 y.v.n, .string (ofL y.v.s)])).run Tryd.prog w = .ok (.bool false) w := NQ0
        clear NQ0
        go_wp2
        go_ret
        exact ⟨rfl, K6.out⟩
      | true =>
        have NQ : ∀ w, (binOp .eql 25 (.agg #[.string (ofL x.verb), .string (ofL x.a), .string (ofL x.b), .int .i64 x.n, .int .i64 x.v.ty, .int .i64 x.v.n, .string (ofL x.v.s)]) (.agg #[.string (ofL y.verb), .string (ofL y.a), .string (ofL y.b), .int .i64 y.n, .int .i64 y.v.ty, .int .i64 y.v.n, .string (ofL y.v.s)])).run Tryd.prog w = .ok (.bool true) w := NQ0
        clear NQ0
        go_wp2
        go_ret
        exact ⟨rfl, K6.out⟩
end Go.Proofs.YtoombjbpblighabDoor
