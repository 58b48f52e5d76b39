/-
  Layer 10: the walk of HeapPlays. Written by an AI agent.
-/
import Derived.Test.YtpighdioomjnmaaHpY
import Derived.Test.YtpighdioomjnmaaHpW
import Derived.Deep.DeepCutAuto
import Derived.Deep.CutBlock
import Derived.Deep.CutRange
import Derived.Deep.RegionHeld3
namespace Go.Proofs.Ytpighdioomjnmaa
open Go.RowKit
set_option linter.unusedVariables false

theorem and7f : ∀ x : Fin 256, bits BinOp.and IntKind.u8 (x.val : Int) 7 = ((x.val % 8 : Nat) : Int) := by decide +kernel
theorem and7 (x : Nat) (h : x < 256) : bits BinOp.and IntKind.u8 (x : Int) 7 = ((x % 8 : Nat) : Int) := and7f ⟨x, h⟩

/-- What is done: four cells each. -/
def OpsAt (w : World) (A : Option Addr) (len : Nat) : Prop :=
  0 < len → ∃ b off, A = some ⟨b, off, none⟩ ∧ ∀ k, k < len → ∃ (x : Nat) (a c d : Int), x < 256 ∧ w.cell? ⟨b, off + k * 4, none⟩ = some (.int .u8 (x : Int)) ∧ w.cell? ⟨b, off + k * 4 + 1, none⟩ = some (.int .i64 a) ∧ w.cell? ⟨b, off + k * 4 + 2, none⟩ = some (.int .i64 c) ∧ w.cell? ⟨b, off + k * 4 + 3, none⟩ = some (.int .i64 d)

/-- A heap and the document's, apart from each other. -/
structure Both (B : Nat) (w : World) (Sh Sy : Nat → Prop) (ph py : Nat) (L M : List (List Int)) : Prop where
  h : HeapL w Sh ph L
  y : RefIs w Sy py M
  hb : ∀ x, Sh x → B ≤ x ∧ x < w.heap.size
  yb : ∀ x, Sy x → B ≤ x ∧ x < w.heap.size
  ne : ∀ x, Sh x → ¬ Sy x

theorem Both.keep {B : Nat} {w w' : World} {Sh Sy T : Nat → Prop} {ph py : Nat} {L M : List (List Int)} (H : Both B w Sh Sy ph py L M) (hk : Keeps T w w') (hT : ∀ x, x < w.heap.size → T x → ¬ Sh x ∧ ¬ Sy x) : Both B w' Sh Sy ph py L M :=
  ⟨H.h.keep hk (fun k hk' hS hT' => (hT k hk' hT').1 hS), H.y.keep hk (fun k hk' hS hT' => (hT k hk' hT').2 hS), fun x hx => ⟨(H.hb x hx).1, Nat.lt_of_lt_of_le (H.hb x hx).2 hk.size⟩, fun x hx => ⟨(H.yb x hx).1, Nat.lt_of_lt_of_le (H.yb x hx).2 hk.size⟩, H.ne⟩

theorem Both.stepH {B : Nat} {w w' : World} {Sh Sy : Nat → Prop} {ph py : Nat} {L M L' : List (List Int)} (H : Both B w Sh Sy ph py L M) (hB : B ≤ w.heap.size) (h' : HeapL w' (fun k => Sh k ∨ (w.heap.size ≤ k ∧ k < w'.heap.size)) ph L') (hk : Keeps Sh w w') :
    Both B w' (fun k => Sh k ∨ (w.heap.size ≤ k ∧ k < w'.heap.size)) Sy ph py L' M ∧ Below B w w' :=
  ⟨⟨h', H.y.keep hk (fun k _ hS hT => H.ne k hT hS), fun x hx => by
      rcases hx with hx | hx
      · exact ⟨(H.hb x hx).1, Nat.lt_of_lt_of_le (H.hb x hx).2 hk.size⟩
      · exact ⟨Nat.le_trans hB hx.1, hx.2⟩, fun x hx => ⟨(H.yb x hx).1, Nat.lt_of_lt_of_le (H.yb x hx).2 hk.size⟩, fun x hx hy => by
      rcases hx with hx | hx
      · exact H.ne x hx hy
      · exact absurd (H.yb x hy).2 (by omega)⟩, hk.toBelow hB (fun k hk' => (H.hb k hk').1)⟩

theorem Both.stepY {B : Nat} {w w' : World} {Sh Sy : Nat → Prop} {ph py : Nat} {L M M' : List (List Int)} (H : Both B w Sh Sy ph py L M) (hB : B ≤ w.heap.size) (h' : RefIs w' (fun k => Sy k ∨ (w.heap.size ≤ k ∧ k < w'.heap.size)) py M') (hk : Keeps Sy w w') :
    Both B w' Sh (fun k => Sy k ∨ (w.heap.size ≤ k ∧ k < w'.heap.size)) ph py L M' ∧ Below B w w' :=
  ⟨⟨H.h.keep hk (fun k _ hS hT => H.ne k hS hT), h', fun x hx => ⟨(H.hb x hx).1, Nat.lt_of_lt_of_le (H.hb x hx).2 hk.size⟩, fun x hx => by
      rcases hx with hx | hx
      · exact ⟨(H.yb x hx).1, Nat.lt_of_lt_of_le (H.yb x hx).2 hk.size⟩
      · exact ⟨Nat.le_trans hB hx.1, hx.2⟩, fun x hx hy => by
      rcases hy with hy | hy
      · exact H.ne x hx hy
      · exact absurd (H.hb x hx).2 (by omega)⟩, hk.toBelow hB (fun k hk' => (H.yb k hk').1)⟩

theorem fits_bound {L : List (List Int)} {n : Int} (h0 : 0 ≤ n) (h : Fits L n) (hn : n ≤ 16) : (L ++ [List.replicate n.toNat 0]).length + (L ++ [List.replicate n.toNat 0]).flatten.length ≤ 40 := by
  unfold Fits at h
  rw [flat_snoc, List.length_append, List.length_append, List.length_replicate, List.length_singleton]
  omega

/-- What comes of Make, in one word. -/
def MadeD (L : List (List Int)) (n x t : Int) (L' : List (List Int)) : Prop :=
  ((n < 0 ∨ 16 < n) ∧ x = 0 ∧ t = 7 ∧ L' = L) ∨ (0 ≤ n ∧ n ≤ 16 ∧ ¬ Fits L n ∧ x = 0 ∧ t = 4 ∧ L' = L) ∨ (0 ≤ n ∧ n ≤ 16 ∧ Fits L n ∧ x = (L.length : Int) + 1 ∧ t = 0 ∧ L' = L ++ [List.replicate n.toNat 0])
theorem made_same {L L1 L2 : List (List Int)} {n x x' t t' : Int} (h : MadeD L n x t L1) (k : MadeD L n x' t' L2) : x' = x ∧ t' = t ∧ L2 = L1 := by
  rcases h with ⟨h1, rfl, rfl, rfl⟩ | ⟨h1, h2, h3, rfl, rfl, rfl⟩ | ⟨h1, h2, h3, rfl, rfl, rfl⟩ <;> rcases k with ⟨k1, rfl, rfl, rfl⟩ | ⟨k1, k2, k3, rfl, rfl, rfl⟩ | ⟨k1, k2, k3, rfl, rfl, rfl⟩
  · exact ⟨rfl, rfl, rfl⟩
  · omega
  · omega
  · omega
  · exact ⟨rfl, rfl, rfl⟩
  · exact absurd k3 h3
  · omega
  · exact absurd h3 k3
  · exact ⟨rfl, rfl, rfl⟩
theorem made_bound {L L1 : List (List Int)} {n x t : Int} (h : MadeD L n x t L1) (hL : L.length + L.flatten.length ≤ 40) : L1.length + L1.flatten.length ≤ 40 := by
  rcases h with ⟨h1, rfl, rfl, rfl⟩ | ⟨h1, h2, h3, rfl, rfl, rfl⟩ | ⟨h1, h2, h3, rfl, rfl, rfl⟩
  · exact hL
  · exact hL
  · exact fits_bound h1 h3 h2
theorem got_same {L : List (List Int)} {a i g g' t t' : Int} (h : (InL L a i ∧ t = 0 ∧ g = (L.getD (a.toNat - 1) []).getD i.toNat 0) ∨ (¬ InL L a i ∧ t = 2 ∧ g = 0)) (k : (InL L a i ∧ t' = 0 ∧ g' = (L.getD (a.toNat - 1) []).getD i.toNat 0) ∨ (¬ InL L a i ∧ t' = 2 ∧ g' = 0)) : g' = g ∧ t' = t := by
  rcases h with ⟨h1, rfl, rfl⟩ | ⟨h1, rfl, rfl⟩ <;> rcases k with ⟨k1, rfl, rfl⟩ | ⟨k1, rfl, rfl⟩
  · exact ⟨rfl, rfl⟩
  · exact absurd h1 k1
  · exact absurd k1 h1
  · exact ⟨rfl, rfl⟩
theorem put_same {L L1 L2 : List (List Int)} {a i n t t' : Int} (h : (InL L a i ∧ t = 0 ∧ L1 = setL L (a.toNat - 1) i.toNat n) ∨ (¬ InL L a i ∧ t = 2 ∧ L1 = L)) (k : (InL L a i ∧ t' = 0 ∧ L2 = setL L (a.toNat - 1) i.toNat n) ∨ (¬ InL L a i ∧ t' = 2 ∧ L2 = L)) : t' = t ∧ L2 = L1 := by
  rcases h with ⟨h1, rfl, rfl⟩ | ⟨h1, rfl, rfl⟩ <;> rcases k with ⟨k1, rfl, rfl⟩ | ⟨k1, rfl, rfl⟩
  · exact ⟨rfl, rfl⟩
  · exact absurd h1 k1
  · exact absurd k1 h1
  · exact ⟨rfl, rfl⟩

set_option maxRecDepth 100000 in
set_option maxHeartbeats 8000000 in
theorem plays_walk (A : Option Addr) (len cap : Nat) (w : World) (hlb : len ≤ 9223372036854775807) (hA : OpsAt w A len) :
    Calls Try.prog 3 #[.slice A len cap] w fun e w' => e = .returned (.bool true) ∧ Below w.heap.size w w' := by
  have HA := Lib.hid hA
  clear hA
  go_enter Try.func3, Try.ntmps3
  go_wp2_with fail
  refine (shown_any _).mono ?_
  rintro e w1 ⟨rfl, hb1⟩
  have HB1 := Lib.hid hb1
  clear hb1
  go_wp2_with fail
  refine (new_any _).mono ?_
  rintro e w2 ⟨rfl, hw2⟩
  have H2 := heapL_new w1
  have K2 : Keeps (fun _ => False) w1 w2 := by rw [hw2]; exact (Keeps.refl _ _).alloc _
  have S2 : w2.heap.size = w1.heap.size + 1 := by rw [hw2]; simp
  rw [← hw2] at H2
  obtain ⟨ph, hph⟩ : ∃ p : Nat, p = w1.heap.size := ⟨_, rfl⟩
  rw [← hph] at H2 S2 ⊢
  have hs1 := HB1.out.size
  have HH2 := Lib.hid H2
  have HK2 := Lib.hid K2
  have HS2 := Lib.hid S2
  have HP := Lib.hid hph
  clear hw2 H2 K2 S2 hph
  go_upto_block 0 with fail
  obtain ⟨w3, hw3⟩ : ∃ w3 : World, w3 = w2.alloc (.cells #[.slice none 0 0] 29) := ⟨_, rfl⟩
  obtain ⟨py, hpy⟩ : ∃ p : Nat, p = w2.heap.size := ⟨_, rfl⟩
  have y3 := refIs_new w2
  have k3 : Keeps (fun _ => False) w2 w3 := by rw [hw3]; exact (Keeps.refl _ _).alloc _
  have s3 : w3.heap.size = w2.heap.size + 1 := by rw [hw3]; simp
  rw [← hw3, ← hpy] at y3
  have hB3 : Both w.heap.size w3 (fun k => k = ph) (fun k => k = py) ph py [] [] := by
    have e1 := HS2.out
    have e2 := HP.out
    refine ⟨HH2.out.keep k3 (fun _ _ _ h => h), y3, fun x hx => ?_, fun x hx => ?_, fun x hx hy => ?_⟩
    · have : x = ph := hx
      omega
    · have : x = py := hx
      omega
    · have h1 : x = ph := hx
      have h2 : x = py := hy
      omega
  have hbl3 : Below w.heap.size w w3 := (HB1.out.trans (HK2.out.toBelow hs1 (fun b hb => hb.elim))).trans (k3.toBelow (by have := HS2.out; have := HP.out; omega) (fun b hb => hb.elim))
  rw [← hw3, ← hpy]
  have HB3 := Lib.hid hB3
  have HBl3 := Lib.hid hbl3
  clear hw3 hpy y3 k3 s3 hB3 hbl3 HH2 HK2 HS2 HP HB1 hs1
  go_wp2_with fail
  go_loopw [4, 6] (fun hp i wr => ∃ (k q : Nat) (L : List (List Int)) (Sh Sy : Nat → Prop), k ≤ 60 ∧ k ≤ len ∧ hp = .pointer (some ⟨q, 0, none⟩) ∧ i = .int .i64 k ∧ Both w.heap.size wr Sh Sy q py L L ∧ L.length + L.flatten.length ≤ 40 ∧ Below w.heap.size w wr) (fun _ i _ => 60 - (intOf i).toNat)
  case atStart => exact ⟨0, ph, [], _, _, by omega, by omega, rfl, rfl, HB3.out, by decide, HBl3.out⟩
  case round =>
    obtain ⟨k, q, L, Sh, Sy, hk, hkl, rfl, rfl, hbo, h40, hbw⟩ := hrel
    by_cases hlt : k < len
    · by_cases h60 : k < 60
      · have hlt' : (k : Int) < (len : Int) := by omega
        have h60' : (k : Int) < 60 := by omega
        have hk0 : (0 : Int) ≤ (k : Int) := by omega
        obtain ⟨b, off, rfl, hcell⟩ := HA.out (by omega)
        obtain ⟨x, a, c, d, hx, hc0, hc1, hc2, hc3⟩ := hcell k hlt
        have hbl := cell_lt hc0
        replace hc0 := (hbw.cell (p := ⟨b, off + k * 4, none⟩) hbl).trans hc0
        replace hc1 := (hbw.cell (p := ⟨b, off + k * 4 + 1, none⟩) hbl).trans hc1
        replace hc2 := (hbw.cell (p := ⟨b, off + k * 4 + 2, none⟩) hbl).trans hc2
        replace hc3 := (hbw.cell (p := ⟨b, off + k * 4 + 3, none⟩) hbl).trans hc3
        have ha := and7 x hx
        obtain ⟨y, hy⟩ : ∃ y : Nat, y = x % 8 := ⟨_, rfl⟩
        rw [← hy] at ha
        have hy8 : y < 8 := by omega
        have HBo := Lib.hid hbo
        have H40 := Lib.hid h40
        have HBw := Lib.hid hbw
        clear hcell hy hbo h40 hbw
        go_upto_block 2 with fail
        obtain ⟨O, hO⟩ : ∃ O : Nat, O = wr.heap.size := ⟨_, rfl⟩
        obtain ⟨wB, hwB⟩ : ∃ wB : World, wB = wr.alloc (.cells #[.int .u8 (x : Int), .int .i64 a, .int .i64 c, .int .i64 d] 31) := ⟨_, rfl⟩
        have o1 : wB.cell? ⟨O, 1, none⟩ = some (.int .i64 a) := by rw [hwB, hO]; simp
        have o2 : wB.cell? ⟨O, 2, none⟩ = some (.int .i64 c) := by rw [hwB, hO]; simp
        have o3 : wB.cell? ⟨O, 3, none⟩ = some (.int .i64 d) := by rw [hwB, hO]; simp
        have kB : Keeps (fun _ => False) wr wB := by rw [hwB]; exact (Keeps.refl _ _).alloc _
        have sB : wB.heap.size = O + 1 := by rw [hwB, hO]; simp
        rw [← hwB, ← hO]
        have hShO : ¬ Sh O := fun h => by have := (HBo.out.hb O h).2; omega
        have hSyO : ¬ Sy O := fun h => by have := (HBo.out.yb O h).2; omega
        have hBB := HBo.out.keep kB (fun _ _ h => h.elim)
        have hBwB : Below w.heap.size w wB := HBw.out.trans (kB.toBelow HBw.out.size (fun b hb => hb.elim))
        have hBs : w.heap.size ≤ wB.heap.size := hBwB.size
        have hOB : O < wB.heap.size := by omega
        have HB := Lib.hid hBB
        have HW := Lib.hid hBwB
        have HSO := Lib.hid hShO
        have HSYO := Lib.hid hSyO
        clear hwB hO kB hc0 hc1 hc2 hc3 hBB hBwB hShO hSyO sB
        go_cut [4, 8, 9, 10, 11, 12] from 41 to 115 (fun s4 s8 s9 s10 s11 s12 wx => ∃ (q' : Nat) (x t : Int) (L' : List (List Int)) (Sh' Sy' : Nat → Prop), s4 = .pointer (some ⟨q', 0, none⟩) ∧ s8 = .int .i64 x ∧ s9 = .int .i64 t ∧ s10 = .int .i64 x ∧ s11 = .int .i64 t ∧ Both w.heap.size wx Sh' Sy' q' py L' L' ∧ L'.length + L'.flatten.length ≤ 40 ∧ Below w.heap.size w wx)
        case first =>
          have hcase : y = 0 ∨ y = 1 ∨ y = 2 ∨ y = 3 ∨ y = 4 ∨ (y = 5 ∨ y = 6 ∨ y = 7) := by omega
          rcases hcase with rfl | rfl | rfl | rfl | rfl | hcase
          · go_wp2_with fail
            refine (make_any wB Sh q L HB.out.h (by have := H40.out; omega) (by have := H40.out; omega) a).mono ?_
            rintro e w5 ⟨xx, tt, L1, rfl, h5, k5, hd5⟩
            have st := HB.out.stepH hBs h5 k5
            have hbd := made_bound hd5 H40.out
            have o1' := (k5.cell (o := 1) hOB HSO.out).trans o1
            have s5 := k5.size
            have HB5 := Lib.hid st.1
            have HW5 := Lib.hid (HW.out.trans st.2)
            have HD5 := Lib.hid hd5
            have HBd := Lib.hid hbd
            clear st h5 k5 hd5 hbd o1 o2 o3
            go_wp2_with fail
            refine (rmake_any w5 Sy py L HB5.out.y (by have := H40.out; omega) (by have := H40.out; omega) a).mono ?_
            rintro e w6 ⟨x6, t6, L2, rfl, y6, k6, hd6⟩
            obtain ⟨rfl, rfl, rfl⟩ := made_same HD5.out hd6
            have st := HB5.out.stepY (by omega) y6 k6
            have HB6 := Lib.hid st.1
            have HW6 := Lib.hid (HW5.out.trans st.2)
            clear st y6 k6 hd6 o1'
            go_wp2_with fail
            go_meet
            exact ⟨q, _, _, _, _, _, rfl, rfl, rfl, rfl, rfl, HB6.out, HBd.out, HW6.out⟩
          · go_wp2_with fail
            refine (get_any wB Sh q L HB.out.h (by have := H40.out; omega) (by have := H40.out; omega) a c).mono ?_
            rintro e w5 ⟨xx, tt, rfl, k5, hd5⟩
            have o1' := (k5.cell (o := 1) hOB (fun h => h)).trans o1
            have o2' := (k5.cell (o := 2) hOB (fun h => h)).trans o2
            have HB5 := Lib.hid (HB.out.keep k5 (fun _ _ h => h.elim))
            have HW5 := Lib.hid (HW.out.trans (k5.toBelow hBs (fun b hb => hb.elim)))
            have s5 := k5.size
            have HD5 := Lib.hid hd5
            clear k5 hd5 o1 o2 o3
            go_wp2_with fail
            refine (rget_any w5 Sy py L HB5.out.y (by have := H40.out; omega) a c).mono ?_
            rintro e w6 ⟨x6, t6, rfl, k6, hd6⟩
            obtain ⟨rfl, rfl⟩ := got_same HD5.out hd6
            have HB6 := Lib.hid (HB5.out.keep k6 (fun _ _ h => h.elim))
            have HW6 := Lib.hid (HW5.out.trans (k6.toBelow (by omega) (fun b hb => hb.elim)))
            clear k6 hd6 o1' o2'
            go_wp2_with fail
            go_meet
            exact ⟨q, _, _, L, _, _, rfl, rfl, rfl, rfl, rfl, HB6.out, H40.out, HW6.out⟩
          · go_wp2_with fail
            refine (put_any wB Sh q L HB.out.h (by have := H40.out; omega) (by have := H40.out; omega) a c d).mono ?_
            rintro e w5 ⟨tt, L1, rfl, h5, k5, hd5⟩
            have st := HB.out.stepH hBs (h5.wider fun _ _ h => .inl h) k5
            have hl := put_len hd5
            have o1' := (k5.cell (o := 1) hOB HSO.out).trans o1
            have o2' := (k5.cell (o := 2) hOB HSO.out).trans o2
            have o3' := (k5.cell (o := 3) hOB HSO.out).trans o3
            have s5 := k5.size
            have HB5 := Lib.hid st.1
            have HW5 := Lib.hid (HW.out.trans st.2)
            have HD5 := Lib.hid hd5
            have HBd : Hid (L1.length + L1.flatten.length ≤ 40) := by rw [hl.1, hl.2.1]; exact H40.out
            clear st h5 k5 hd5 hl o1 o2 o3
            go_wp2_with fail
            refine (rput_any w5 Sy py L HB5.out.y (by have := H40.out; omega) a c d).mono ?_
            rintro e w6 ⟨t6, L2, rfl, y6, k6, hd6⟩
            obtain ⟨rfl, rfl⟩ := put_same HD5.out hd6
            have st := HB5.out.stepY (by omega) (y6.wider fun _ _ h => .inl h) k6
            have HB6 := Lib.hid st.1
            have HW6 := Lib.hid (HW5.out.trans st.2)
            clear st y6 k6 hd6 o1' o2' o3'
            go_wp2_with fail
            go_meet
            exact ⟨q, _, 0, _, _, _, rfl, rfl, rfl, rfl, rfl, HB6.out, HBd.out, HW6.out⟩
          · go_wp2_with fail
            refine (len_ok wB Sh q L HB.out.h (by have := H40.out; omega) (by have := H40.out; omega) a).mono ?_
            rintro e w5 ⟨rfl, q5, hq5⟩
            have k5 : Keeps (fun _ => False) wB w5 := by rw [hq5]; exact keeps_drewN _ wB q5
            have o1' := (k5.cell (o := 1) hOB (fun h => h)).trans o1
            have HB5 := Lib.hid (HB.out.keep k5 (fun _ _ h => h.elim))
            have HW5 := Lib.hid (HW.out.trans (k5.toBelow hBs (fun b hb => hb.elim)))
            clear k5 hq5 o1 o2 o3
            go_wp2_with fail
            refine (rlen_any w5 Sy py L HB5.out.y (by have := H40.out; omega) a).mono ?_
            rintro e w6 ⟨rfl, rfl⟩
            go_wp2_with fail
            go_meet
            exact ⟨q, _, 0, L, _, _, rfl, rfl, rfl, rfl, rfl, HB5.out, H40.out, HW5.out⟩
          · go_wp2_with fail
            refine (clone_ok wB Sh q L HB.out.h (by have := H40.out; omega) (by have := H40.out; omega)).mono ?_
            rintro e w5 ⟨q5, rfl, h5, k5⟩
            have s5 := k5.size
            have hB5 := HB.out.keep k5 (fun _ _ h => h.elim)
            have HB5 := Lib.hid hB5
            have HC5 := Lib.hid h5
            have HW5 := Lib.hid (HW.out.trans (k5.toBelow hBs (fun b hb => hb.elim)))
            clear k5 h5 hB5 o1 o2 o3
            go_wp2_with fail
            refine (make_any w5 Sh q L HB5.out.h (by have := H40.out; omega) (by have := H40.out; omega) 1).mono ?_
            rintro e w6 ⟨x6, t6, L6, rfl, h6, k6, hd6⟩
            have hbd : L6.length + L6.flatten.length ≤ 40 := made_bound hd6 H40.out
            have s6 := k6.size
            have hC6 := HC5.out.keep k6 (fun y hy hS hT => by have := (HB.out.hb y hT).2; omega)
            have hy6 := HB5.out.y.keep k6 (fun y hy hS hT => HB5.out.ne y hT hS)
            have H6 := Lib.hid h6
            have HC6 := Lib.hid hC6
            have HY6 := Lib.hid hy6
            have HBd := Lib.hid hbd
            have HW6 := Lib.hid (HW5.out.trans (k6.toBelow (by omega) (fun y hy => (HB.out.hb y hy).1)))
            clear h6 k6 hd6 hbd hC6 hy6
            go_wp2_with fail
            refine (put_any w6 _ q L6 H6.out (by have := HBd.out; omega) (by have := HBd.out; omega) 1 0 77).mono ?_
            rintro e w7 ⟨t7, L7, rfl, h7, k7, _⟩
            have s7 := k7.size
            have hC7 := HC6.out.keep k7 (fun y hy hS hT => by
              rcases hT with hT | hT
              · have := (HB.out.hb y hT).2; omega
              · omega)
            have hy7 := HY6.out.keep k7 (fun y hy hS hT => by
              rcases hT with hT | hT
              · exact HB5.out.ne y hT hS
              · have := (HB5.out.yb y hS).2; omega)
            have hB7 : Both w.heap.size w7 (fun k => wB.heap.size ≤ k ∧ k < w5.heap.size) Sy q5 py L L := ⟨hC7, hy7, fun y hy => ⟨by omega, by omega⟩, fun y hy => ⟨(HB.out.yb y hy).1, by have := (HB5.out.yb y hy).2; omega⟩, fun y hy hS => by have := (HB.out.yb y hS).2; omega⟩
            have HB7 := Lib.hid hB7
            have HW7 := Lib.hid (HW6.out.trans (k7.toBelow (by omega) (fun y hy => by
              rcases hy with hy | hy
              · exact (HB.out.hb y hy).1
              · omega)))
            clear h7 k7 hC7 hy7 hB7
            go_wp2_with fail
            go_meet
            exact ⟨q5, 0, 0, L, _, _, rfl, rfl, rfl, rfl, rfl, HB7.out, H40.out, HW7.out⟩
          · rcases hcase with rfl | rfl | rfl
            all_goals
              clear o1 o2 o3
              go_wp2_with fail
              go_meet
              exact ⟨q, 0, 0, L, _, _, rfl, rfl, rfl, rfl, rfl, HB.out, H40.out, HW.out⟩
        case rest =>
          obtain ⟨q', x', t', L', Sh', Sy', rfl, rfl, rfl, rfl, rfl, hbo, hl40, hbw⟩ := hcut
          obtain ⟨wD, rfl⟩ : ∃ wD : World, wD = wc := ⟨_, rfl⟩
          obtain ⟨vy, rows, hcy, _, _, _, hRow⟩ := hbo.y
          obtain ⟨Ay, cy, rfl⟩ := hRow.form
          have hrd := hRow.ls.rd
          obtain ⟨M, hM⟩ : ∃ M : Nat, M = L'.length := ⟨_, rfl⟩
          rw [← hM] at hcy
          have LC : Hid (∀ w', Keeps (fun _ => False) wD w' → Calls Try.prog 20 #[.pointer (some ⟨q', 0, none⟩)] w' (GotLists L' w')) := fun w' hk => lists_ok w' _ q' L' (hbo.h.keep hk (fun _ _ _ h => h)) (by omega) (by omega)
          have SC : Hid (∀ w' (A6 : Option Addr) (c6 : Nat), Keeps (fun _ => False) wD w' → RdL w' A6 L' → Calls Try.prog 19 #[.slice A6 M c6, .slice Ay M cy] w' fun e w'' => e = .returned (.bool true) ∧ ∃ k, w'' = w'.drewN k) := fun w' A6 c6 hk hr => by
            rw [hM]
            exact same_same w' A6 Ay c6 cy L' (by omega) (fun i => Nat.le_trans (getD_le_flat L' i) (by omega)) hr (rdl_keep hrd hk)
          have HM := Lib.hid hM
          have HBo' := Lib.hid hbo
          have HL40 := Lib.hid hl40
          have HBw' := Lib.hid hbw
          clear hbo hl40 hbw hRow hrd hM o1 o2 o3
          go_wp2_with fail
          refine wp_region_held_drew (S := fun w' => w'.cell? ⟨py, 0, none⟩ = some (.slice Ay M cy) ∧ Keeps (fun _ => False) wD w') (by kernel_rfl) (⟨hcy, (Keeps.refl _ _).drew⟩) (fun hHeld => ?_)
          refine wpAnyH_take (i := 0) (v := ?_) rfl (by kernel_rfl) (by kernel_rfl) (by kernel_rfl) (fun _ _ _ h => h) (Or.inl ⟨by rfl, ?_⟩) (by assumption) ?_
          rotate_left
          · (intro w' hSw; (try dsimp only at hSw); go_simp; (try (with_reducible rfl)))
          simp only [Act.put, List.getElem_toArray, List.getElem_cons_zero, List.setIfInBounds_toArray, List.set_cons_succ, List.set_cons_zero]
          refine wpAnyH_take (i := 2) (v := ?_) rfl (by kernel_rfl) (by kernel_rfl) (by kernel_rfl) (fun _ _ _ h => h) (Or.inl ⟨by rfl, ?_⟩) (by assumption) ?_
          rotate_left
          · (intro w' hSw; (try dsimp only at hSw); go_simp; (try (with_reducible rfl)))
          simp only [Act.put, List.getElem_toArray, List.getElem_cons_succ, List.getElem_cons_zero, List.setIfInBounds_toArray, List.set_cons_succ, List.set_cons_zero]
          refine wpAnyH_take (i := 3) (v := ?_) rfl (by kernel_rfl) (by kernel_rfl) (by kernel_rfl) (fun _ _ _ h => h) (Or.inl ⟨by rfl, ?_⟩) (by assumption) ?_
          rotate_left
          · (intro w' hSw; (try dsimp only at hSw); go_simp; (try (with_reducible rfl)))
          simp only [Act.put, List.getElem_toArray, List.getElem_cons_succ, List.getElem_cons_zero, List.setIfInBounds_toArray, List.set_cons_succ, List.set_cons_zero]
          refine wpAnyH_take (i := 4) (v := ?_) rfl (by kernel_rfl) (by kernel_rfl) (by kernel_rfl) (fun _ _ _ h => h) (Or.inl ⟨by rfl, ?_⟩) (by assumption) ?_
          rotate_left
          · (intro w' hSw; (try dsimp only at hSw); go_simp; (try (with_reducible rfl)))
          simp only [Act.put, List.getElem_toArray, List.getElem_cons_succ, List.getElem_cons_zero, List.setIfInBounds_toArray, List.set_cons_succ, List.set_cons_zero]
          refine wpAnyH_take (i := 5) (v := ?_) rfl (by kernel_rfl) (by kernel_rfl) (by kernel_rfl) (fun _ _ _ h => h) (Or.inl ⟨by rfl, ?_⟩) (by assumption) ?_
          rotate_left
          · (intro w' hSw; (try dsimp only at hSw); go_simp; (try (with_reducible rfl)))
          simp only [Act.put, List.getElem_toArray, List.getElem_cons_succ, List.getElem_cons_zero, List.setIfInBounds_toArray, List.set_cons_succ, List.set_cons_zero]
          refine wpAnyH_ready (rs := [1]) (by kernel_rfl) (by simp) ?_
          refine AllReadyH.cons rfl (fun K hK => ?_) AllReadyH.nil
          go_simp
          (go_at_call 20; refine (LC.out _ hHeld.2).mono ?_; rintro e w6 ⟨v6, c6, A6, rfl, rfl, h6, k6⟩; have hb4 := k6; have H6 := Lib.hid h6; clear h6 k6; (try rw [← HM.out]); (try go_simp))
          refine hK.out _ _ ?_ (fun hHeld => ?_)
          · (try dsimp only); exact ⟨(hb4.cell (cell_lt hHeld.1) (fun h => h)).trans hHeld.1, hHeld.2.trans hb4 (fun _ _ h => h)⟩
          clear hK K
          refine wpAnyH_ready (rs := [6]) (by kernel_rfl) (by simp) ?_
          refine AllReadyH.cons rfl (fun K hK => ?_) AllReadyH.nil
          go_simp
          (go_at_call 19; refine (SC.out _ A6 c6 hHeld.2 H6.out.rd).mono ?_; rintro e w7 ⟨rfl, q7, hq7⟩; have hb4 : Keeps (fun _ => False) w6 w7 := (by rw [hq7]; exact keeps_drewN _ w6 q7); clear hq7; (try go_simp))
          refine hK.out _ _ ?_ (fun hHeld => ?_)
          · (try dsimp only); exact ⟨(hb4.cell (cell_lt hHeld.1) (fun h => h)).trans hHeld.1, hHeld.2.trans hb4 (fun _ _ h => h)⟩
          clear hK K
          refine wpAnyH_take (i := 7) (v := ?_) rfl (by kernel_rfl) (by kernel_rfl) (by kernel_rfl) (fun _ _ _ h => h) (Or.inl ⟨by rfl, ?_⟩) (by assumption) ?_
          rotate_left
          · (intro w' hSw; (try dsimp only at hSw); go_simp; (try (with_reducible rfl)))
          simp only [Act.put, List.getElem_toArray, List.getElem_cons_succ, List.getElem_cons_zero, List.setIfInBounds_toArray, List.set_cons_succ, List.set_cons_zero]
          refine wpAnyH_done (by kernel_rfl) ?_ _
          have hk7 : Keeps (fun _ => False) wD w7 := (by assumption : w7.cell? ⟨py, 0, none⟩ = some (.slice Ay M cy) ∧ Keeps (fun _ => False) wD w7).2
          have HB7 := Lib.hid (HBo'.out.keep hk7 (fun _ _ h => h.elim))
          have HW7 := Lib.hid (HBw'.out.trans (hk7.toBelow HBw'.out.size (fun b hb => hb.elim)))
          clear hk7
          go_wp2
          go_roundw
          case rel => exact ⟨k + 1, q', L', Sh', Sy', by omega, by omega, rfl, by go_num, HB7.out, HL40.out, HW7.out⟩
          case measure => simp [intOf]; omega
      · have h60' : ¬ (k : Int) < 60 := by omega
        have hlt' : (k : Int) < (len : Int) := by omega
        have hd : decide ((k : Int) < 60) = false := decide_eq_false h60'
        have HBw := Lib.hid hbw
        clear hbo h40 hbw
        go_wp2
        go_ret
        exact ⟨rfl, HBw.out⟩
    · have hlt' : ¬ (k : Int) < (len : Int) := by omega
      have hd : decide ((k : Int) < (len : Int)) = false := decide_eq_false hlt'
      have HBw := Lib.hid hbw
      clear hbo h40 hbw
      go_wp2
      go_ret
      exact ⟨rfl, HBw.out⟩

end Go.Proofs.Ytpighdioomjnmaa
