/-
  Layer 14: the walk of KeepPlays. Written by an AI agent.
-/
import Derived.Test.YtpighdioomjnmabKqA
import Derived.Deep.RegionHeld3
namespace Go.Proofs.Ytpighdioomjnmab
open Go.RowKit Go.Shelf
set_option linter.unusedVariables false
set_option linter.unusedSimpArgs false

theorem and3f : ∀ x : Fin 256, bits BinOp.and IntKind.u8 (x.val : Int) 3 = ((x.val % 4 : Nat) : Int) := by decide +kernel
theorem and3 (x : Nat) (h : x < 256) : bits BinOp.and IntKind.u8 (x : Int) 3 = ((x % 4 : Nat) : Int) := and3f ⟨x, h⟩

theorem PutD.fit {most : Int} {L M : List (Int × Int)} {a x : Int} (h : PutD most L a x M) (hl : (L.length : Int) ≤ max most 1) : (M.length : Int) ≤ max most 1 := by
  rcases h with ⟨k, _, _, rfl⟩ | ⟨r, _, _, _, rfl⟩
  · rw [List.length_set]; exact hl
  · unfold newK
    by_cases h : max most 1 < (L.length : Int) + 1
    · have h1 := nearK_in (insK L r (a, x)) (L.length - 1)
      rw [if_pos h, delK_length _ _ (by rw [insK_length]; omega), insK_length]
      omega
    · rw [if_neg h, insK_length]
      omega

/-- A Keep and the document's, beside each other. -/
structure Beside (C : Nat) (w : World) (Sk Sy : Nat → Prop) (kp yp : Nat) (most : Int) (Lk Ly : List (Int × Int)) : Prop where
  k : ∃ v, KeepIs w Sk kp most v Lk
  y : ∃ va vx, DocIs w Sy yp (max most 1) va vx Ly
  sk : ∀ b, Sk b → C ≤ b ∧ b < w.heap.size
  sy : ∀ b, Sy b → C ≤ b ∧ b < w.heap.size
  ne : ∀ b, Sk b → ¬ Sy b

theorem Beside.keep {C : Nat} {w w' : World} {Sk Sy : Nat → Prop} {kp yp : Nat} {most : Int} {Lk Ly : List (Int × Int)} (H : Beside C w Sk Sy kp yp most Lk Ly) (hk : Keeps (fun _ => False) w w') : Beside C w' Sk Sy kp yp most Lk Ly := by
  obtain ⟨v, hv⟩ := H.k
  obtain ⟨va, vx, hy⟩ := H.y
  exact ⟨⟨v, hv.keep hk (fun _ _ _ h => h)⟩, ⟨va, vx, hy.keep hk (fun _ _ _ h => h)⟩, fun b h => ⟨(H.sk b h).1, Nat.lt_of_lt_of_le (H.sk b h).2 hk.size⟩, fun b h => ⟨(H.sy b h).1, Nat.lt_of_lt_of_le (H.sy b h).2 hk.size⟩, H.ne⟩

theorem Beside.stepK {C : Nat} {w w' : World} {Sk Sy : Nat → Prop} {kp yp : Nat} {most : Int} {Lk Ly M : List (Int × Int)} {v' : Value} (H : Beside C w Sk Sy kp yp most Lk Ly) (hC : C ≤ w.heap.size) (h' : KeepIs w' (fun b => Sk b ∨ (w.heap.size ≤ b ∧ b < w'.heap.size)) kp most v' M) (hk : Keeps Sk w w') :
    Beside C w' (fun b => Sk b ∨ (w.heap.size ≤ b ∧ b < w'.heap.size)) Sy kp yp most M Ly ∧ Below C w w' := by
  obtain ⟨va, vx, hy⟩ := H.y
  refine ⟨⟨⟨v', h'⟩, ⟨va, vx, hy.keep hk (fun b _ hS hT => H.ne b hT hS)⟩, fun b h => ?_, fun b h => ⟨(H.sy b h).1, Nat.lt_of_lt_of_le (H.sy b h).2 hk.size⟩, fun b h hS => ?_⟩, hk.toBelow hC fun b hb => (H.sk b hb).1⟩
  · rcases h with h | h
    · exact ⟨(H.sk b h).1, Nat.lt_of_lt_of_le (H.sk b h).2 hk.size⟩
    · exact ⟨by omega, h.2⟩
  · rcases h with h | h
    · exact H.ne b h hS
    · have := (H.sy b hS).2
      omega

theorem Beside.stepY {C : Nat} {w w' : World} {Sk Sy : Nat → Prop} {kp yp : Nat} {most : Int} {Lk Ly M : List (Int × Int)} {va' vx' : Value} (H : Beside C w Sk Sy kp yp most Lk Ly) (hC : C ≤ w.heap.size) (h' : DocIs w' (fun b => Sy b ∨ (w.heap.size ≤ b ∧ b < w'.heap.size)) yp (max most 1) va' vx' M) (hk : Keeps Sy w w') :
    Beside C w' Sk (fun b => Sy b ∨ (w.heap.size ≤ b ∧ b < w'.heap.size)) kp yp most Lk M ∧ Below C w w' := by
  obtain ⟨v, hv⟩ := H.k
  refine ⟨⟨⟨v, hv.keep hk (fun b _ hS hT => H.ne b hS hT)⟩, ⟨va', vx', h'⟩, fun b h => ⟨(H.sk b h).1, Nat.lt_of_lt_of_le (H.sk b h).2 hk.size⟩, fun b h => ?_, fun b hS h => ?_⟩, hk.toBelow hC fun b hb => (H.sy b hb).1⟩
  · rcases h with h | h
    · exact ⟨(H.sy b h).1, Nat.lt_of_lt_of_le (H.sy b h).2 hk.size⟩
    · exact ⟨by omega, h.2⟩
  · rcases h with h | h
    · exact H.ne b hS h
    · have := (H.sk b hS).2
      omega

set_option maxRecDepth 100000 in
set_option maxHeartbeats 8000000 in
theorem plays_walk (most : Int) (A : Option Addr) (len cap : Nat) (qs : Nat → Nat) (at' xs : Nat → Int) (w : World) (hlb : len ≤ 9223372036854775807) (hA : OpsAt w A len qs at' xs) :
    Calls Try.prog 3 #[.int .i64 most, .slice A len cap] w fun e w' => e = .returned (.bool true) ∧ Below w.heap.size w w' := by
  have HA := Lib.hid hA
  clear hA
  go_enter Try.func3, Try.ntmps3
  go_wp2_with fail
  refine (Str.shown_any _).mono ?_
  rintro e w1 ⟨rfl, hb1⟩
  have HB1 := Lib.hid hb1
  clear hb1
  go_wp2_with fail
  refine (knew_any _ _).mono ?_
  rintro e w2 ⟨rfl, hw2⟩
  have H2 := keepIs_new w1 most
  have K2 : Keeps (fun _ => False) w1 w2 := by rw [hw2]; exact (Keeps.refl _ _).alloc _
  have S2 : w2.heap.size = w1.heap.size + 1 := by rw [hw2]; simp
  rw [← hw2] at H2
  obtain ⟨pk, hpk⟩ : ∃ p : Nat, p = w1.heap.size := ⟨_, rfl⟩
  rw [← hpk] at H2 S2 ⊢
  have hs1 := HB1.out.size
  have HH2 := Lib.hid H2
  have HK2 := Lib.hid K2
  have HS2 := Lib.hid S2
  have HP := Lib.hid hpk
  clear hw2 H2 K2 S2 hpk
  go_wp2_with fail
  refine (dnew_any _ _).mono ?_
  rintro e w3 ⟨rfl, hw3⟩
  obtain ⟨py, hpy⟩ : ∃ p : Nat, p = w2.heap.size := ⟨_, rfl⟩
  have y3 := docIs_new w2 (max most 1)
  have k3 : Keeps (fun _ => False) w2 w3 := by rw [hw3]; exact (Keeps.refl _ _).alloc _
  have s3 : w3.heap.size = w2.heap.size + 1 := by rw [hw3]; simp
  rw [← hw3, ← hpy] at y3
  have hB3 : Beside w.heap.size w3 (fun k => k = pk) (fun k => k = py) pk py most [] [] := by
    have e1 := HS2.out
    have e2 := HP.out
    refine ⟨⟨_, HH2.out.keep k3 (fun _ _ _ h => h)⟩, ⟨_, _, y3⟩, fun x hx => ?_, fun x hx => ?_, fun x hx hy => ?_⟩
    · have : x = pk := hx
      omega
    · have : x = py := hx
      omega
    · have h1 : x = pk := hx
      have h2 : x = py := hy
      omega
  have hbl3 : Below w.heap.size w w3 := (HB1.out.trans (HK2.out.toBelow hs1 (fun b hb => hb.elim))).trans (k3.toBelow (by have := HS2.out; have := HP.out; omega) (fun b hb => hb.elim))
  rw [← hpy]
  have HB3 := Lib.hid hB3
  have HBl3 := Lib.hid hbl3
  clear hw3 hpy y3 k3 s3 hB3 hbl3 HH2 HK2 HS2 HP HB1 hs1
  go_wp2_with fail
  go_loopw [8] (fun i wr => ∃ (k : Nat) (L : List (Int × Int)) (Sk Sy : Nat → Prop), k ≤ 60 ∧ k ≤ len ∧ i = .int .i64 k ∧ Beside w.heap.size wr Sk Sy pk py most L L ∧ L.length ≤ k ∧ (L.length : Int) ≤ max most 1 ∧ Below w.heap.size w wr) (fun i _ => 60 - (intOf i).toNat)
  case atStart => exact ⟨0, [], _, _, by omega, by omega, rfl, HB3.out, by decide, by show (0 : Int) ≤ _; omega, HBl3.out⟩
  case round =>
    obtain ⟨k, L, Sk, Sy, hk, hkl, rfl, hbo, hLk, hfit, hbw⟩ := hrel
    by_cases hlt : k < len
    · by_cases h60 : k < 60
      · have hlt' : (k : Int) < (len : Int) := by omega
        have h60' : (k : Int) < 60 := by omega
        have hk0 : (0 : Int) ≤ (k : Int) := by omega
        obtain ⟨b, off, rfl, hcell⟩ := HA.out (by omega)
        obtain ⟨⟨hx, hc0⟩, hc1, hc2⟩ := hcell k hlt
        obtain ⟨x, hxq⟩ : ∃ x : Nat, x = qs k := ⟨_, rfl⟩
        obtain ⟨a, haq⟩ : ∃ a : Int, a = at' k := ⟨_, rfl⟩
        obtain ⟨c, hcq⟩ : ∃ c : Int, c = xs k := ⟨_, rfl⟩
        rw [← hxq] at hx hc0
        rw [← haq] at hc1
        rw [← hcq] at hc2
        have hbl := cell_ltk hc0
        replace hc0 := (hbw.cell (p := ⟨b, off + k * 3, none⟩) hbl).trans hc0
        replace hc1 := (hbw.cell (p := ⟨b, off + k * 3 + 1, none⟩) hbl).trans hc1
        replace hc2 := (hbw.cell (p := ⟨b, off + k * 3 + 2, none⟩) hbl).trans hc2
        have ha := and3 x hx
        obtain ⟨y, hy⟩ : ∃ y : Nat, y = x % 4 := ⟨_, rfl⟩
        rw [← hy] at ha
        have hy4 : y < 4 := by omega
        have hup : Up L := by obtain ⟨v, hv⟩ := hbo.k; exact hv.up
        have HUp := Lib.hid hup
        have HBo := Lib.hid hbo
        have HFit := Lib.hid hfit
        have HBw := Lib.hid hbw
        clear hcell hy hbo hfit hbw hxq haq hcq hup
        go_upto_block 2 with fail
        obtain ⟨O, hO⟩ : ∃ O : Nat, O = wr.heap.size := ⟨_, rfl⟩
        obtain ⟨wB, hwB⟩ : ∃ wB : World, wB = wr.alloc (.cells #[.int .u8 (x : Int), .int .i64 a, .int .i64 c] 29) := ⟨_, rfl⟩
        have o1 : wB.cell? ⟨O, 1, none⟩ = some (.int .i64 a) := by rw [hwB, hO]; simp
        have o2 : wB.cell? ⟨O, 2, none⟩ = some (.int .i64 c) := by rw [hwB, hO]; simp
        have kB : Keeps (fun _ => False) wr wB := by rw [hwB]; exact (Keeps.refl _ _).alloc _
        have sB : wB.heap.size = O + 1 := by rw [hwB, hO]; simp
        rw [← hwB, ← hO]
        have hSkO : ¬ Sk O := fun h => by have := (HBo.out.sk O h).2; omega
        have hSyO : ¬ Sy O := fun h => by have := (HBo.out.sy O h).2; omega
        have hBB := HBo.out.keep kB
        have hBwB : Below w.heap.size w wB := HBw.out.trans (kB.toBelow HBw.out.size (fun b hb => hb.elim))
        have hBs : w.heap.size ≤ wB.heap.size := hBwB.size
        have hOB : O < wB.heap.size := by omega
        have HB := Lib.hid hBB
        have HW := Lib.hid hBwB
        have HSO := Lib.hid hSkO
        have HSYO := Lib.hid hSyO
        clear hwB hO kB hc0 hc1 hc2 hBB hBwB hSkO hSyO sB
        go_cut [10, 11, 12, 13, 14, 15] from 42 to 100 (fun s10 s11 s12 s13 s14 s15 wx => ∃ (L' : List (Int × Int)) (Sk' Sy' : Nat → Prop), Beside w.heap.size wx Sk' Sy' pk py most L' L' ∧ L'.length ≤ k + 1 ∧ (L'.length : Int) ≤ max most 1 ∧ Below w.heap.size w wx)
        case first =>
          obtain ⟨vk, hvk⟩ := HB.out.k
          have hcase : y = 0 ∨ (y = 1 ∨ y = 3) ∨ y = 2 := by omega
          rcases hcase with rfl | hcase | rfl
          · have PC := Lib.hid (put_any wB Sk pk most vk L hvk (by omega) a c)
            clear hvk
            go_wp2_with fail
            refine PC.out.mono ?_
            rintro e w5 ⟨v5, M, rfl, hd5, h5, k5⟩
            have st := HB.out.stepK hBs h5 k5
            have o1' := (k5.cell (o := 1) hOB HSO.out).trans o1
            have o2' := (k5.cell (o := 2) hOB HSO.out).trans o2
            have s5 := k5.size
            obtain ⟨r, hr, r1, r2, hM⟩ := putD_doc HUp.out HFit.out hd5
            have hMl := hd5.length
            have hMf := hd5.fit HFit.out
            obtain ⟨va, vx, hy5⟩ := st.1.y
            have DC := dput_any w5 Sy py (max most 1) va vx L hy5 (by omega) (by omega) HUp.out a c r hr r1 r2
            rw [← hM] at DC
            have DCh := Lib.hid DC
            have HB5 := Lib.hid st.1
            have HW5 := Lib.hid (HW.out.trans st.2)
            have HMf := Lib.hid hMf
            clear st h5 k5 hd5 DC hy5 hr r1 r2 hM hMf o1 o2
            go_wp2_with fail
            refine DCh.out.mono ?_
            rintro e w6 ⟨va6, vx6, rfl, y6, k6⟩
            have st := HB5.out.stepY (by omega) y6 k6
            have HB6 := Lib.hid st.1
            have HW6 := Lib.hid (HW5.out.trans st.2)
            clear st y6 k6 o1' o2'
            go_wp2_with fail
            go_meet
            exact ⟨M, _, _, HB6.out, by omega, HMf.out, HW6.out⟩
          · have BC := Lib.hid (best_any wB Sk pk most vk L hvk (by omega) a)
            obtain ⟨va, vx, hvy⟩ := HB.out.y
            have DC : Hid (∀ w', Keeps (fun _ => False) wB w' → Calls Try.prog 17 #[.pointer (some ⟨py, 0, none⟩), .int .i64 a] w' (GotBest L a w')) := fun w' hk => dbest_any w' Sy py (max most 1) va vx L (hvy.keep hk (fun _ _ _ h => h)) (by omega) a
            clear hvk hvy
            rcases hcase with rfl | rfl
            all_goals
              go_wp2_with fail
              refine BC.out.mono ?_
              rintro e w5 hg5
              have HG5 := Lib.hid hg5
              obtain ⟨bb, zz, ok, rfl, hbd, k5⟩ := bestD_of HUp.out hg5
              have o1' := (k5.cell (o := 1) hOB (fun h => h)).trans o1
              have HB5 := Lib.hid (HB.out.keep k5)
              have HW5 := Lib.hid (HW.out.trans (k5.toBelow hBs (fun b hb => hb.elim)))
              have s5 := k5.size
              have DC5 := Lib.hid (DC.out w5 k5)
              clear k5 hbd hg5 o1 o2
              go_wp2_with fail
              refine DC5.out.mono ?_
              rintro e w6 hg6
              obtain rfl := best_same HUp.out HG5.out hg6
              have k6 := hg6.1
              have HB6 := Lib.hid (HB5.out.keep k6)
              have HW6 := Lib.hid (HW5.out.trans (k6.toBelow (by omega) (fun b hb => hb.elim)))
              clear k6 hg6 o1' HG5
              go_wp2_with fail
              go_meet
              exact ⟨L, _, _, HB6.out, by omega, HFit.out, HW6.out⟩
          · have PC := Lib.hid (drop_any wB Sk pk most vk L hvk (by omega) a)
            clear hvk
            go_wp2_with fail
            refine PC.out.mono ?_
            rintro e w5 ⟨r, v5, rfl, hr, r1, r2, h5, k5⟩
            have st := HB.out.stepK hBs (h5.wider fun _ h => .inl h) k5
            have o1' := (k5.cell (o := 1) hOB HSO.out).trans o1
            have s5 := k5.size
            obtain ⟨va, vx, hy5⟩ := st.1.y
            have hTl : (L.take r).length ≤ L.length := by rw [List.length_take]; omega
            have hTf : ((L.take r).length : Int) ≤ max most 1 := by have := HFit.out; omega
            have DCh := Lib.hid (ddrop_any w5 Sy py (max most 1) va vx L hy5 (by omega) a r hr r1 r2)
            have HB5 := Lib.hid st.1
            have HW5 := Lib.hid (HW.out.trans st.2)
            have HTf := Lib.hid hTf
            have HTl := Lib.hid hTl
            clear st h5 k5 hy5 hr r1 r2 hTf hTl o1 o2
            go_wp2_with fail
            refine DCh.out.mono ?_
            rintro e w6 ⟨va6, vx6, rfl, y6, k6⟩
            have st := HB5.out.stepY (by omega) y6 k6
            have HB6 := Lib.hid st.1
            have HW6 := Lib.hid (HW5.out.trans st.2)
            clear st y6 k6 o1'
            go_wp2_with fail
            go_meet
            exact ⟨L.take r, _, _, HB6.out, by have := HTl.out; omega, HTf.out, HW6.out⟩
        case rest =>
          obtain ⟨L', Sk', Sy', hbo, hLk', hfit', hbw⟩ := hcut
          obtain ⟨wD, rfl⟩ : ∃ wD : World, wD = wc := ⟨_, rfl⟩
          obtain ⟨vk, hvk⟩ := hbo.k
          obtain ⟨va, vx, hvy⟩ := hbo.y
          obtain ⟨Ay, cy, rfl⟩ := own_formk hvy.ownA
          have hcy := hvy.c1
          obtain ⟨M, hM⟩ : ∃ M : Nat, M = L'.length := ⟨_, rfl⟩
          rw [← hM] at hcy
          have LC : Hid (∀ w', Keeps (fun _ => False) wD w' → Calls Try.prog 21 #[.pointer (some ⟨pk, 0, none⟩)] w' (GotTimes L' w')) := fun w' hk => times_any w' _ pk most vk L' (hvk.keep hk (fun _ _ _ h => h)) (by omega)
          have SC : Hid (∀ w' (A6 : Option Addr) (c6 : Nat), Keeps (fun _ => False) wD w' → w'.ownsRow 0 3 1 (.slice A6 M c6) M (tv L') → Calls Try.prog 20 #[.slice A6 M c6, .slice Ay M cy] w' fun e w'' => e = .returned (.bool true) ∧ ∃ k, w'' = w'.drewN k) := fun w' A6 c6 hk hr =>
            ints_same w' A6 Ay c6 cy M L' hM (by omega) hr (by
              have h := (hvy.keep hk (fun _ _ _ h => h)).ownA
              rw [← hM] at h
              exact h)
          have HM := Lib.hid hM
          have HBo' := Lib.hid hbo
          have HFit' := Lib.hid hfit'
          have HBw' := Lib.hid hbw
          clear hbo hfit' hbw hM o1 o2 hvk hvy
          go_wp2_with fail
          refine wp_region_held_drew (S := fun w' => w'.cell? ⟨py, 1, none⟩ = some (.slice Ay M cy) ∧ Keeps (fun _ => False) wD w') (by kernel_rfl) (⟨hcy, (Keeps.refl _ _).drew⟩) (fun hHeld => ?_)
          refine wpAnyH_take (i := 0) (v := ?_) rfl (by kernel_rfl) (by kernel_rfl) (by kernel_rfl) (fun _ _ _ h => h) (Or.inl ⟨by rfl, ?_⟩) (by assumption) ?_
          rotate_left
          · (intro w' hSw; (try dsimp only at hSw); go_simp; (try (with_reducible rfl)))
          simp only [Act.put, List.getElem_toArray, List.getElem_cons_zero, List.setIfInBounds_toArray, List.set_cons_succ, List.set_cons_zero]
          refine wpAnyH_take (i := 2) (v := ?_) rfl (by kernel_rfl) (by kernel_rfl) (by kernel_rfl) (fun _ _ _ h => h) (Or.inl ⟨by rfl, ?_⟩) (by assumption) ?_
          rotate_left
          · (intro w' hSw; (try dsimp only at hSw); go_simp; (try (with_reducible rfl)))
          simp only [Act.put, List.getElem_toArray, List.getElem_cons_succ, List.getElem_cons_zero, List.setIfInBounds_toArray, List.set_cons_succ, List.set_cons_zero]
          refine wpAnyH_take (i := 3) (v := ?_) rfl (by kernel_rfl) (by kernel_rfl) (by kernel_rfl) (fun _ _ _ h => h) (Or.inl ⟨by rfl, ?_⟩) (by assumption) ?_
          rotate_left
          · (intro w' hSw; (try dsimp only at hSw); go_simp; (try (with_reducible rfl)))
          simp only [Act.put, List.getElem_toArray, List.getElem_cons_succ, List.getElem_cons_zero, List.setIfInBounds_toArray, List.set_cons_succ, List.set_cons_zero]
          refine wpAnyH_take (i := 4) (v := ?_) rfl (by kernel_rfl) (by kernel_rfl) (by kernel_rfl) (fun _ _ _ h => h) (Or.inl ⟨by rfl, ?_⟩) (by assumption) ?_
          rotate_left
          · (intro w' hSw; (try dsimp only at hSw); go_simp; (try (with_reducible rfl)))
          simp only [Act.put, List.getElem_toArray, List.getElem_cons_succ, List.getElem_cons_zero, List.setIfInBounds_toArray, List.set_cons_succ, List.set_cons_zero]
          refine wpAnyH_take (i := 5) (v := ?_) rfl (by kernel_rfl) (by kernel_rfl) (by kernel_rfl) (fun _ _ _ h => h) (Or.inl ⟨by rfl, ?_⟩) (by assumption) ?_
          rotate_left
          · (intro w' hSw; (try dsimp only at hSw); go_simp; (try (with_reducible rfl)))
          simp only [Act.put, List.getElem_toArray, List.getElem_cons_succ, List.getElem_cons_zero, List.setIfInBounds_toArray, List.set_cons_succ, List.set_cons_zero]
          refine wpAnyH_ready (rs := [1]) (by kernel_rfl) (by simp) ?_
          refine AllReadyH.cons rfl (fun K hK => ?_) AllReadyH.nil
          go_simp
          (go_at_call 21; refine (LC.out _ hHeld.2).mono ?_; rintro e w6 ⟨v6, rfl, h6, b6, k6⟩; obtain ⟨A6, c6, rfl⟩ := own_formk h6; (try rw [← HM.out] at h6); have hb4 := k6; have H6 := Lib.hid h6; clear h6 k6 b6; (try rw [← HM.out]); (try go_simp))
          refine hK.out _ _ ?_ (fun hHeld => ?_)
          · (try dsimp only); exact ⟨(hb4.cell (cell_ltk hHeld.1) (fun h => h)).trans hHeld.1, hHeld.2.trans hb4 (fun _ _ h => h)⟩
          clear hK K
          refine wpAnyH_ready (rs := [6]) (by kernel_rfl) (by simp) ?_
          refine AllReadyH.cons rfl (fun K hK => ?_) AllReadyH.nil
          go_simp
          (go_at_call 20; refine (SC.out _ A6 c6 hHeld.2 H6.out).mono ?_; rintro e w7 ⟨rfl, q7, hq7⟩; have hb4 : Keeps (fun _ => False) w6 w7 := (by rw [hq7]; exact keeps_drewNk _ w6 q7); clear hq7; (try go_simp))
          refine hK.out _ _ ?_ (fun hHeld => ?_)
          · (try dsimp only); exact ⟨(hb4.cell (cell_ltk hHeld.1) (fun h => h)).trans hHeld.1, hHeld.2.trans hb4 (fun _ _ h => h)⟩
          clear hK K
          refine wpAnyH_take (i := 7) (v := ?_) rfl (by kernel_rfl) (by kernel_rfl) (by kernel_rfl) (fun _ _ _ h => h) (Or.inl ⟨by rfl, ?_⟩) (by assumption) ?_
          rotate_left
          · (intro w' hSw; (try dsimp only at hSw); go_simp; (try (with_reducible rfl)))
          simp only [Act.put, List.getElem_toArray, List.getElem_cons_succ, List.getElem_cons_zero, List.setIfInBounds_toArray, List.set_cons_succ, List.set_cons_zero]
          refine wpAnyH_done (by kernel_rfl) ?_ _
          have hk7 : Keeps (fun _ => False) wD w7 := (by assumption : w7.cell? ⟨py, 1, none⟩ = some (.slice Ay M cy) ∧ Keeps (fun _ => False) wD w7).2
          have HB7 := Lib.hid (HBo'.out.keep hk7)
          have HW7 := Lib.hid (HBw'.out.trans (hk7.toBelow HBw'.out.size (fun b hb => hb.elim)))
          clear hk7
          go_wp2
          go_roundw
          case rel => exact ⟨k + 1, L', Sk', Sy', by omega, by omega, by go_num, HB7.out, hLk', HFit'.out, HW7.out⟩
          case measure => simp [intOf]; omega
      · have h60' : ¬ (k : Int) < 60 := by omega
        have hlt' : (k : Int) < (len : Int) := by omega
        have hd : decide ((k : Int) < 60) = false := decide_eq_false h60'
        have HBw := Lib.hid hbw
        clear hbo hfit hbw
        go_wp2
        go_ret
        exact ⟨rfl, HBw.out⟩
    · have hlt' : ¬ (k : Int) < (len : Int) := by omega
      have hd : decide ((k : Int) < (len : Int)) = false := decide_eq_false hlt'
      have HBw := Lib.hid hbw
      clear hbo hfit hbw
      go_wp2
      go_ret
      exact ⟨rfl, HBw.out⟩

end Go.Proofs.Ytpighdioomjnmab
