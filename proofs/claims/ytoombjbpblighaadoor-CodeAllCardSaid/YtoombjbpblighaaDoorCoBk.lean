/-
  Layer 8: the walk of CodeBack. Written by an AI agent.
-/
import Derived.Test.YtoombjbpblighaaDoorCoZ
namespace Go.Proofs.YtoombjbpblighaaDoor
open Go Go.RowKit Go.Shelf
set_option linter.unusedVariables false
set_option linter.unusedSimpArgs false

theorem RdB_up {w w' : World} {R : Nat} {A : Option Addr} {l : List Int} (h : RdB w R A l) (k : Keeps (fun _ => False) w w') : RdB w' R A l := fun h0 => by
  obtain ⟨b, off, e, hb, hc⟩ := h h0
  exact ⟨b, off, e, hb, fun j hj => (k.cell (cell_ltk (hc 0 h0)) (fun h => h)).trans (hc j hj)⟩
theorem rd_zero (w : World) : RdB (w.alloc (.cells #[.int .u8 0] 5)) (w.heap.size + 1) (some ⟨w.heap.size, 0, none⟩) [0] := fun _ => ⟨w.heap.size, 0, rfl, Nat.lt_succ_self _, fun k hk => by
  have : k = 0 := by simp at hk; omega
  subst this
  simp⟩
theorem more_copied {w4 wc w5 w7 : World} {A5 : Option Addr} {c5 : Nat} {v7 : Value} {l : List Int} {x : Int} {o : Obj} (o6 : OutB w5 (.slice A5 l.length c5) l) (b6 : ∀ g, (Value.slice A5 l.length c5).ownBlock = some g → wc.heap.size ≤ g) (hk5 : Keeps (fun _ => False) w4 w5) (g7 : Grows (w5.alloc o) (.slice A5 l.length c5) w7 v7) (o7 : OutB w7 v7 (l ++ [x])) (h4 : w4.heap.size ≤ wc.heap.size) :
    ∃ A7 c7, v7 = .slice A7 (l ++ [x]).length c7 ∧ RdB w7 w7.heap.size A7 (l ++ [x]) ∧ (l ++ [x]).length ≤ c7 ∧ c7 ≤ 9223372036854775807 ∧ Keeps (fun _ => False) w4 w7 := by
  obtain ⟨A, c, rfl⟩ := own_formk o7
  obtain ⟨h1, h2, h3⟩ := own_rdB o7 rfl
  refine ⟨A, c, rfl, h1, h2, h3, ?_⟩
  exact (hk5.alloc o).trans g7.1 (fun p hp e => by have := b6 p e.symm; omega)

set_option maxRecDepth 100000 in
set_option maxHeartbeats 16000000 in
theorem back_walk (I : Option Addr) (c : Nat) (L : List Ins) (E : Option Addr) (d : Nat) (Z : List Int) (A3 : Option Addr) (c3 : Nat) (l : List Int) (at' : Int) (hL : L.length ≤ 9223372036854775807) (hZd : Z.length ≤ d) (hd : d ≤ 9223372036854775807) (hlc : l.length ≤ c3) (hc3 : c3 ≤ 9223372036854775807) (hlok : ∀ x ∈ l, 0 ≤ x ∧ x < 256) (hok : ∀ x ∈ L, InsR x) (hzo : ∀ a ∈ Z, -9223372036854775808 ≤ a ∧ a ≤ 9223372036854775807) (w : World) (hw : CodeW w) (hI : RdI w I L) (hE : RdZ w E Z) (hl : RdB w w.heap.size A3 l) :
    Calls Tryd.prog 12 #[.agg #[.slice I L.length c, .slice E Z.length d], .slice A3 l.length c3, .int .i64 at'] w fun e w' => e = .returned (.bool true) ∧ Keeps (fun _ => False) w w' := by
  obtain ⟨i5, hi5, h5z0, h5z1, h5z2⟩ := info_parts info5
  have HW := Lib.hid hw
  have HI := Lib.hid hI
  have HE := Lib.hid hE
  obtain ⟨M, hM⟩ : ∃ M, M = (L.take 40).map Ins.few := ⟨_, rfl⟩
  obtain ⟨Y, hY⟩ : ∃ Y, Y = Z.take (min Z.length 8) := ⟨_, rfl⟩
  obtain ⟨b, hb⟩ : ∃ b, b = l.take 3000 := ⟨_, rfl⟩
  have hMl : M.length = min L.length 40 := by rw [hM, List.length_map, List.length_take]; omega
  have hYl : Y.length = min Z.length 8 := by rw [hY, List.length_take]; omega
  have hbl : b.length = min l.length 3000 := by rw [hb, List.length_take]; omega
  have hMok : ∀ x ∈ M, InsR x ∧ x.s.size ≤ 50 := fun x hx => by
    rw [hM] at hx
    obtain ⟨y, hy, rfl⟩ := List.mem_map.1 hx
    exact ⟨hok y (List.mem_of_mem_take hy), few_size2 y⟩
  have hYok : ∀ a ∈ Y, -9223372036854775808 ≤ a ∧ a ≤ 9223372036854775807 := fun a ha => hzo a (List.mem_of_mem_take (by rw [hY] at ha; exact ha))
  have hbok : ∀ x ∈ b, 0 ≤ x ∧ x < 256 := fun x hx => hlok x (List.mem_of_mem_take (by rw [hb] at hx; exact hx))
  have hEY : RdZ w E Y := fun h0 => by
    obtain ⟨b, off, e, hc⟩ := hE (by omega)
    refine ⟨b, off, e, fun k hk => ?_⟩
    have h1 := hc k (by omega)
    have : Y.getD k 0 = Z.getD k 0 := by rw [hY]; show (Z.take _)[k]?.getD 0 = Z[k]?.getD 0; rw [List.getElem?_take, if_pos (by omega)]
    rw [this]
    exact h1
  have hbr : RdB w w.heap.size A3 b := by rw [hb]; exact hl.take 3000
  have SC : Hid (∀ o, Calls Tryd.prog 25 #[] (w.alloc o) fun e w' => e = .returned (.bool true) ∧ Keeps (fun _ => False) (w.alloc o) w') := Lib.hid fun o => shown8_any _ (HW.out.keep ((Keeps.refl _ _).alloc _))
  have FC : Hid (∀ w1, Keeps (fun _ => False) w w1 → Calls Tryd.prog 26 #[.agg #[.slice I L.length c, .slice E Z.length d]] w1 fun e w' => (∃ A c', e = .returned (.agg #[.slice A M.length c', .slice E Y.length d]) ∧ w'.ownsRow 0 52 4 (.slice A M.length c') M.length (flatI M) ∧ (∀ g, (Value.slice A M.length c').ownBlock = some g → w1.heap.size ≤ g)) ∧ Keeps (fun _ => False) w1 w') := by
    rw [hMl, hYl, hM]
    exact Lib.hid fun w1 k => few_any I c L E Z.length d hZd hd hL w1 (HI.out.keep k)
  have BC : Hid (∀ w1, Calls Tryd.prog 27 #[.slice A3 l.length c3] w1 fun e w' => e = .returned (.slice A3 b.length c3) ∧ w1 = w') := by
    rw [hbl]
    exact Lib.hid fun w1 => short8_any A3 l.length c3 hlc hc3 w1
  obtain ⟨q, hq⟩ : ∃ q, q = M.length := ⟨_, rfl⟩
  obtain ⟨me, hme⟩ : ∃ me, me = Y.length := ⟨_, rfl⟩
  obtain ⟨lb, hlb⟩ : ∃ lb, lb = b.length := ⟨_, rfl⟩
  obtain ⟨nL, hnL⟩ : ∃ n, n = L.length := ⟨_, rfl⟩
  obtain ⟨nZ, hnZ⟩ : ∃ n, n = Z.length := ⟨_, rfl⟩
  obtain ⟨nl, hnl⟩ : ∃ n, n = l.length := ⟨_, rfl⟩
  have hq40 : q ≤ 40 := by omega
  have hme8 : me ≤ 8 := by omega
  have hlb3 : lb ≤ 3000 := by omega
  have hlbc : lb ≤ c3 := by omega
  rw [← hq, ← hme, ← hnL, ← hnZ] at FC
  rw [← hnl, ← hlb] at BC
  rw [← hnL, ← hnZ, ← hnl]
  have HQ := Lib.hid hq
  have HME := Lib.hid hme
  have HLB := Lib.hid hlb
  have HMOK := Lib.hid hMok
  have HYOK := Lib.hid hYok
  have HBOK := Lib.hid hbok
  have HEY := Lib.hid hEY
  have HBR := Lib.hid hbr
  clear hw hI hE hM hY hMl hYl hMok hYok hEY hq hme hnL hnZ hok hzo hL hZd hd hb hbl hbok hlok hbr hl hlc hlb hnl
  go_enter Tryd.func12, Tryd.ntmps12
  go_wp2_with fail
  refine (SC.out _).mono ?_
  rintro e w1 ⟨rfl, k1⟩
  obtain ⟨p0, p1, p2, p3⟩ := two_new w (.slice I nL c) (.slice E nZ d) 41 rfl
  have hz : (w.alloc (.cells #[.slice I nL c, .slice E nZ d] 41)).heap.size = w.heap.size + 1 := by simp
  have c0 := (k1.cell (b := w.heap.size) (o := 0) (by omega) (fun h => h)).trans p0
  have c1 := (k1.cell (b := w.heap.size) (o := 1) (by omega) (fun h => h)).trans p1
  have f0 := (k1.frozen (b := w.heap.size) (o := 0) (by omega) (fun h => h)).trans p2
  have f1 := (k1.frozen (b := w.heap.size) (o := 1) (by omega) (fun h => h)).trans p3
  have kw1 : Keeps (fun _ => False) w w1 := ((Keeps.refl _ _).alloc _).trans k1 (fun _ _ h => h)
  obtain ⟨pn, hpn⟩ : ∃ pn, pn = w.heap.size := ⟨_, rfl⟩
  rw [← hpn] at c0 c1 f0 f1 ⊢
  have HPN := Lib.hid hpn
  have FC1 := Lib.hid (FC.out w1 kw1)
  have K1 := Lib.hid kw1
  have hpb := cell_ltk c0
  clear p0 p1 p2 p3 hz k1 kw1 hpn SC FC
  go_wp2_with fail
  refine FC1.out.mono ?_
  rintro e w2 ⟨⟨A, c', rfl, o2, b2⟩, k2⟩
  have d0 := (k2.cell hpb (fun h => h)).trans c0
  have d1 := (k2.cell hpb (fun h => h)).trans c1
  have g0 := (k2.frozen hpb (fun h => h)).trans f0
  have g1 := (k2.frozen hpb (fun h => h)).trans f1
  have hfin : Keeps (fun _ => False) w ((w2.setCell ⟨pn, 0, none⟩ (.slice A q c')).setCell ⟨pn, 1, none⟩ (.slice E me d)) := by
    have hp : ∀ i : Nat, (⟨pn, i, none⟩ : Addr).block < w.heap.size → False := fun i h => by have h : pn < w.heap.size := h; have := HPN.out; omega
    exact ((K1.out.trans k2 (fun _ _ h => h)).setCell (p := ⟨pn, 0, none⟩) (hp 0) _).setCell (p := ⟨pn, 1, none⟩) (hp 1) _
  have hown : ((w2.setCell ⟨pn, 0, none⟩ (.slice A q c')).setCell ⟨pn, 1, none⟩ (.slice E me d)).ownsRow 0 52 4 (.slice A q c') q (flatI M) := by
    have hb : ∀ k, (Value.slice A q c').ownBlock = some k → k ≠ pn := fun k hk => by have := b2 k hk; omega
    exact ownsRow_keep (ownsRow_keep o2 (fun k hk => Below.heap_setCell _ _ _ k (fun e => hb k hk e))) (fun k hk => Below.heap_setCell _ _ _ k (fun e => hb k hk e))
  have K2 := Lib.hid hfin
  have HOWN := Lib.hid hown
  have e0 : ((w2.setCell ⟨pn, 0, none⟩ (.slice A q c')).setCell ⟨pn, 1, none⟩ (.slice E me d)).cell? ⟨pn, 0, none⟩ = some (.slice A q c') := (cell_other _ 1 0 _ (.inl (by omega))).trans (cell_same _ _ _ _ _ d0)
  have e1 : ((w2.setCell ⟨pn, 0, none⟩ (.slice A q c')).setCell ⟨pn, 1, none⟩ (.slice E me d)).cell? ⟨pn, 1, none⟩ = some (.slice E me d) := cell_same _ _ _ _ _ ((cell_other _ 0 1 _ (.inl (by omega))).trans d1)
  have HE0 := Lib.hid e0
  have HE1 := Lib.hid e1
  have hp2 := cell_ltk d0
  clear o2 b2 k2 hfin hown e0 e1 c0 c1 f0 f1 FC1 hpb
  go_upto_region 3 with fail
  generalize hw3 : (w2.setCell _ _).setCell _ _ = w3
  rw [hw3] at HE0 HE1 K2 HOWN
  have RI3 := Lib.hid (own_rdI HOWN.out HQ.out)
  have PC := put_code A c' M E d Y (by rw [← HQ.out]; omega) (by rw [← HME.out]; omega) (fun x hx => by obtain ⟨h1, h2⟩ := HMOK.out x hx; exact ⟨h1.1, h1.2.1, by omega⟩) HYOK.out w3 (HW.out.keep K2.out) RI3.out (HEY.out.keep K2.out)
  rw [← HQ.out, ← HME.out] at PC
  have HPC := Lib.hid (PC.mono fun e w' h => puts_of (fun x hx => (HMOK.out x hx).1) h)
  have e0 := HE0.out
  have e1 := HE1.out
  have hp3 := cell_ltk e0
  have HP3 := Lib.hid hp3
  have HCE : Hid (∀ wq, Keeps (fun _ => False) w3 wq → wq.cell? ⟨pn, 0, none⟩ = some (.slice A q c') ∧ wq.cell? ⟨pn, 1, none⟩ = some (.slice E me d) ∧ pn < wq.heap.size) := Lib.hid fun wq k => ⟨(k.cell hp3 (fun h => h)).trans e0, (k.cell hp3 (fun h => h)).trans e1, Nat.lt_of_lt_of_le hp3 k.size⟩
  clear hw3 PC d0 d1 g0 g1 hp2 HE0 HE1
  go_wp2_with fail
  refine (BC.out _).mono ?_
  rintro e wb ⟨rfl, rfl⟩
  go_wp2_with fail
  refine HPC.out.mono ?_
  rintro e w4 ⟨hput, k4⟩
  have K4 := Lib.hid k4
  have KW4 := Lib.hid (K2.out.trans k4 (fun _ _ h => h))
  clear e0 e1 k4 HPC BC hp3
  have hcase : ∃ (v : Value) (er : Nat), e = .returned (.tuple #[v, .int .i64 (er : Int)]) ∧ ((er = 0 ∧ Lays M Y ∧ OutB w4 v (putB M Y)) ∨ (er = 4 ∨ er = 1)) := by
    rcases hput with ⟨h1, v, h2, h3⟩ | ⟨er, h1, h2⟩
    · exact ⟨v, 0, h2, .inl ⟨rfl, h1, h3⟩⟩
    · exact ⟨_, er, h2, .inr h1⟩
  obtain ⟨v8, er, rfl, hx⟩ := hcase
  have HX := Lib.hid hx
  clear hput hx
  go_upto_if 32 with fail
  go_cut [8, 9, 10, 11, 12, 13, 14, 15, 16, 26, 28, 29, 30, 31, 32] from 33 to 77 (fun s8 s9 s10 s11 s12 s13 s14 s15 s16 s26 s28 s29 s30 s31 s32 wx => Keeps (fun _ => False) w4 wx)
  case first =>
    rcases HX.out with ⟨rfl, hlay, ob⟩ | hbad
    · obtain ⟨PB, hPB⟩ : ∃ PB, PB = putB M Y := ⟨_, rfl⟩
      have hPl : PB.length ≤ 3000 := by rw [hPB]; exact flatB (by rw [← HQ.out]; exact hq40) (fun x hx => (HMOK.out x hx).2) (by rw [← HME.out]; exact hme8)
      rw [← hPB] at ob
      obtain ⟨G, cG, rfl⟩ := own_formk ob
      obtain ⟨hrG, hcG, hcm⟩ := own_rdB ob rfl
      have hpbk : ∀ x ∈ PB, 0 ≤ x ∧ x < 256 := by rw [hPB]; exact putB_ok M Y
      have hcw : ∀ wq, Keeps (fun _ => False) w4 wq → CodeW wq := fun wq k => HW.out.keep (KW4.out.trans k (fun _ _ h => h))
      have TK : Hid (∀ A5 c5 wq, Keeps (fun _ => False) w4 wq → RdB wq wq.heap.size A5 PB → PB.length ≤ c5 → c5 ≤ 9223372036854775807 → Calls Tryd.prog 30 #[.slice A5 PB.length c5] wq (Took M Y wq)) := Lib.hid fun A5 c5 wq k hr h1 h2 =>
        (take_any A5 c5 PB h1 h2 hpbk wq (hcw wq k) hr).mono fun e w' h => take_all hlay (by rw [← hPB]; exact h)
      have TM : Hid (∀ A5 c5 wq, Keeps (fun _ => False) w4 wq → RdB wq wq.heap.size A5 (PB ++ [0]) → (PB ++ [0]).length ≤ c5 → c5 ≤ 9223372036854775807 → Calls Tryd.prog 30 #[.slice A5 (PB ++ [0]).length c5] wq (Fell 3 wq)) := Lib.hid fun A5 c5 wq k hr h1 h2 =>
        (take_any A5 c5 (PB ++ [0]) h1 h2 (fun x hx => by rcases List.mem_append.1 hx with hx | hx; exact hpbk x hx; simp at hx; omega) wq (hcw wq k) hr).mono fun e w' h => take_more hlay (by rw [← hPB]; exact h)
      have TC : Hid (∀ (n : Nat) wq, n < PB.length → Keeps (fun _ => False) w4 wq → Calls Tryd.prog 30 #[.slice G n cG] wq (Fell 2 wq)) := Lib.hid fun n wq hn k => by
        have hln : (PB.take n).length = n := by rw [List.length_take]; omega
        have h := take_any G cG (PB.take n) (by omega) hcm (fun x hx => hpbk x (List.mem_of_mem_take hx)) wq (hcw wq k) (fun h0 => by
          obtain ⟨b, off, e, hb, hc⟩ := (hrG.take n) h0
          exact ⟨b, off, e, Nat.lt_of_lt_of_le hb k.size, fun j hj => (k.cell (by omega) (fun h => h)).trans (hc j hj)⟩)
        rw [hln] at h
        exact h.mono fun e w' h => take_cut hlay (by rw [← hPB]; exact hn) (by rw [← hPB]; exact h)
      have RIX := Lib.hid (fun wq (k : Keeps (fun _ => False) w4 wq) => RI3.out.keep (K4.out.trans k (fun _ _ h => h)))
      have REX := Lib.hid (fun wq (k : Keeps (fun _ => False) w4 wq) => HEY.out.keep (KW4.out.trans k (fun _ _ h => h)))
      have CEX := Lib.hid (fun wq (k : Keeps (fun _ => False) w4 wq) => HCE.out wq (K4.out.trans k (fun _ _ h => h)))
      have hmok : M.length ≤ 1000000 ∧ Y.length ≤ 1000000 := ⟨by rw [← HQ.out]; omega, by rw [← HME.out]; omega⟩
      have SM : Hid (∀ AI cI AE cE wq, Keeps (fun _ => False) w4 wq → RdI wq AI M → RdZ wq AE Y → Calls Tryd.prog 32 #[.agg #[.slice A q c', .slice E me d], .agg #[.slice AI q cI, .slice AE me cE]] wq fun e w' => e = .returned (.bool true) ∧ Keeps (fun _ => False) wq w') := Lib.hid fun AI cI AE cE wq k r1 r2 => by
        rw [HQ.out, HME.out]
        exact same8_any A AI c' cI M E AE d cE Y hmok.1 hmok.2 wq (RIX.out wq k) r1 (REX.out wq k) r2
      have RG : Hid (∀ wq, Keeps (fun _ => False) w4 wq → RdB wq wq.heap.size G PB) := Lib.hid fun wq k h0 => by
        obtain ⟨b, off, e, hb, hc⟩ := hrG h0
        exact ⟨b, off, e, Nat.lt_of_lt_of_le hb k.size, fun j hj => (k.cell (by omega) (fun h => h)).trans (hc j hj)⟩
      obtain ⟨PL, hPL⟩ : ∃ PL, PL = PB.length := ⟨_, rfl⟩
      have hPM : (PB ++ [0]).length = PL + 1 := by rw [List.length_append, hPL]; rfl
      rw [hPM] at TM
      rw [← hPL] at TK TC hcG hPl ⊢
      have HPLn := Lib.hid hPL
      have HPM := Lib.hid hPM
      clear hPB ob hrG hpbk hcw hmok hPL hPM hlay HX
      go_wp2_with (at_builtin; refine wpList_append_bytes rfl (.tmp 34) (.tmp 35) rfl rfl (.slice (some ⟨w4.heap.size, 0, none⟩) 0 0) [] (by rfl) (own_empty w4) w4.heap.size G PL cG PB (by rfl) HPLn.out ((RG.out w4 (Keeps.refl _ _)).keep ((Keeps.refl _ _).alloc _)) (by show 0 + PL ≤ 1000000; omega) ?_
                   intro v5 w5 o5 g5
                   obtain ⟨A5, c5, rfl, hr5, hl5, hm5, _, _, hk5⟩ := copied o5 g5
                   rw [← HPLn.out] at hl5
                   have HR5 := Lib.hid hr5
                   have HK5 := Lib.hid hk5
                   rw [← HPLn.out]
                   clear o5 g5 hr5 hk5)
      refine (TK.out A5 c5 w5 HK5.out HR5.out hl5 hm5).mono ?_
      rintro e w6 ⟨⟨vI, vE, rfl, oI, oE⟩, k6⟩
      obtain ⟨AI, cI, hvI⟩ := own_formk oI
      obtain ⟨AE, cE, hvE⟩ := own_formk oE
      rw [hvI] at oI
      rw [hvE] at oE
      have RI6 := Lib.hid (own_rdI oI rfl)
      have RE6 := Lib.hid (own_rdZ oE rfl)
      rw [← HQ.out] at hvI
      rw [← HME.out] at hvE
      subst hvI hvE
      have K6 := Lib.hid (HK5.out.trans k6 (fun _ _ h => h))
      obtain ⟨e0, e1, hp6⟩ := CEX.out w6 K6.out
      have SX := Lib.hid (fun o => SM.out AI cI AE cE (w6.alloc o) (K6.out.alloc o) (RI6.out.keep ((Keeps.refl _ _).alloc o)) (RE6.out.keep ((Keeps.refl _ _).alloc o)))
      clear oI oE k6 TK HK5 HR5 SM hl5 hm5
      go_wp2_with fail
      refine (SX.out _).mono ?_
      rintro e w7 ⟨rfl, k7⟩
      have K7 := Lib.hid ((K6.out.alloc _).trans k7 (fun _ _ h => h))
      clear k7 SX K6 RI6 RE6 e0 e1 hp6
      go_upto_region 10 with fail
      go_cut [56] from 49 to 56 (fun s56 wx => s56 = .bool (decide (0 ≤ at' ∧ at' < (PL : Int))) ∧ wx = w7)
      case first =>
        by_cases ha0 : 0 ≤ at'
        · have ha0d : decide (0 ≤ at') = true := decide_eq_true ha0
          by_cases ha1 : at' < (PL : Int)
          · have ha1d : decide (at' < (PL : Int)) = true := decide_eq_true ha1
            have hb : Hid (decide (0 ≤ at' ∧ at' < (PL : Int)) = true) := Lib.hid (decide_eq_true ⟨ha0, ha1⟩)
            go_wp2
            go_meet
            exact ⟨by rw [hb.out], rfl⟩
          · have ha1d : decide (at' < (PL : Int)) = false := decide_eq_false ha1
            have hb : Hid (decide (0 ≤ at' ∧ at' < (PL : Int)) = false) := Lib.hid (decide_eq_false (fun h => ha1 h.2))
            go_wp2
            go_meet
            exact ⟨by rw [hb.out], rfl⟩
        · have ha0d : decide (0 ≤ at') = false := decide_eq_false ha0
          have hb : Hid (decide (0 ≤ at' ∧ at' < (PL : Int)) = false) := Lib.hid (decide_eq_false (fun h => ha0 h.1))
          go_wp2
          go_meet
          exact ⟨by rw [hb.out], rfl⟩
      obtain ⟨rfl, hwc⟩ := hcut
      rw [hwc]
      clear hwc
      go_upto_if 56 with fail
      go_cut [13, 14, 56] from 57 to 65 (fun s13 s14 s56 wx => Keeps (fun _ => False) w4 wx)
      case first =>
        by_cases ha : 0 ≤ at' ∧ at' < (PL : Int)
        · have had : decide (0 ≤ at' ∧ at' < (PL : Int)) = true := decide_eq_true ha
          rw [had]
          clear had
          obtain ⟨na, rfl⟩ := Int.eq_ofNat_of_zero_le ha.1
          have hna : na < PL := by omega
          have hnc : (na : Int) ≤ (cG : Int) := by omega
          have TX := Lib.hid (TC.out na w7 hna K7.out)
          clear ha
          go_wp2_with fail
          refine TX.out.mono ?_
          rintro e w8 ⟨rfl, k8⟩
          have K8 := Lib.hid (K7.out.trans k8 (fun _ _ h => h))
          clear k8 TX
          go_wp2
          go_meet
          exact K8.out.alloc _
        · have had : decide (0 ≤ at' ∧ at' < (PL : Int)) = false := decide_eq_false ha
          rw [had]
          clear had ha
          go_wp2
          go_meet
          exact K7.out
      case rest =>
        have K9 := Lib.hid hcut
        clear hcut K7 TC
        go_wp2_with (first
          | (at_builtin
             refine wpList_append_bytes rfl (.tmp 67) (.tmp 68) rfl rfl (.slice (some ⟨wc.heap.size, 0, none⟩) 0 0) [] (by rfl) (own_empty wc) w4.heap.size G PL cG PB (by rfl) HPLn.out (RdB.keep (RdB_up (RG.out w4 (Keeps.refl _ _)) K9.out) ((Keeps.refl _ _).alloc _)) (by show 0 + PL ≤ 1000000; omega) ?_
             intro v5 w5 o5 g5
             obtain ⟨A5, c5, rfl, hr5, hl5, hm5, o6, b6, hk5⟩ := copied o5 g5
             have O6 := Lib.hid o6
             have B6 := Lib.hid b6
             have HK5 := Lib.hid (K9.out.trans hk5 (fun _ _ h => h))
             rw [← HPLn.out]
             clear o5 g5 hr5 hk5 hl5 hm5 o6 b6)
          | (at_builtin
             refine wpList_append_bytes rfl (.tmp 69) (.tmp 70) rfl rfl (.slice A5 PL c5) PB (by rfl) (by rw [HPLn.out]; exact own_of1 O6.out ((Keeps.refl _ _).alloc _)) (w5.heap.size + 1) (some ⟨w5.heap.size, 0, none⟩) 1 1 [0] (by rfl) rfl (rd_zero w5) (by rw [← HPLn.out]; omega) ?_
             intro v7 w7 o7 g7
             obtain ⟨A7, c7, rfl, hr7, hl7, hm7, hk7⟩ := more_copied O6.out B6.out HK5.out (by rw [HPLn.out] at g7; exact g7) o7 K9.out.size
             rw [HPM.out] at hl7 ⊢
             have HR7 := Lib.hid hr7
             have HK7 := Lib.hid hk7
             clear o7 g7 hr7 hk7))
        have TX := Lib.hid (TM.out A7 c7 w7 HK7.out HR7.out hl7 hm7)
        go_wp2_with fail
        refine TX.out.mono ?_
        rintro e w8 ⟨rfl, k8⟩
        have K8 := Lib.hid (HK7.out.trans k8 (fun _ _ h => h))
        clear k8 TX HK7 HR7 TM HK5 O6 B6 K9
        go_wp2
        go_meet
        exact K8.out.alloc _
    · have hb : (er : Int) = 4 ∨ (er : Int) = 1 := by omega
      have hb1 : ¬ (er : Int) = 0 := by omega
      have hb2 : decide ((er : Int) = 0) = false := decide_eq_false hb1
      clear hbad hb HX
      obtain ⟨ev, hev⟩ : ∃ ev, ev = (er : Int) := ⟨_, rfl⟩
      rw [← hev] at hb1 hb2 ⊢
      clear hev
      go_wp2
      go_meet
      exact Keeps.refl _ _
  case rest =>
    have K9 := Lib.hid hcut
    have KW9 := Lib.hid (KW4.out.trans hcut (fun _ _ h => h))
    clear hcut HX HCE KW4 K4 K9 RI3 HOWN HP3
    go_wp2_with (at_builtin
                 refine wpList_append_bytes rfl (.tmp 78) (.tmp 79) rfl rfl (.slice (some ⟨wc.heap.size, 0, none⟩) 0 0) [] (by rfl) (own_empty wc) w.heap.size A3 lb c3 b (by rfl) HLB.out (RdB.keep (RdB_up HBR.out KW9.out) ((Keeps.refl _ _).alloc _)) (by show 0 + lb ≤ 1000000; omega) ?_
                 intro v5 w5 o5 g5
                 obtain ⟨A5, c5, rfl, hr5, hl5, hm5, _, _, hk5⟩ := copied o5 g5
                 have TB := Lib.hid ((take_any A5 c5 b hl5 hm5 HBOK.out w5 (HW.out.keep (KW9.out.trans hk5 (fun _ _ h => h))) hr5).mono fun e w' h => take_bytes HBOK.out h)
                 rw [← HLB.out] at TB ⊢
                 have HK5 := Lib.hid (KW9.out.trans hk5 (fun _ _ h => h))
                 clear o5 g5 hr5 hk5 hl5 hm5)
    refine TB.out.mono ?_
    rintro e w6 (⟨M', Y', hlay, hb, ⟨vI, vE, rfl, oI, oE⟩, k6⟩ | ⟨er, her, rfl, k6⟩)
    · obtain ⟨AI, cI, hvI⟩ := own_formk oI
      obtain ⟨AE, cE, hvE⟩ := own_formk oE
      rw [hvI] at oI
      rw [hvE] at oE
      have RI6 := Lib.hid (own_rdI oI rfl)
      have RE6 := Lib.hid (own_rdZ oE rfl)
      have K6 := Lib.hid (HK5.out.trans k6 (fun _ _ h => h))
      have PX : Hid (∀ o, Calls Tryd.prog 28 #[.agg #[.slice AI M'.length cI, .slice AE Y'.length cE]] (w6.alloc o) fun e w' => (∃ v, e = .returned (.tuple #[v, .int .i64 0]) ∧ OutB w' v b) ∧ Keeps (fun _ => False) (w6.alloc o) w') := Lib.hid fun o =>
        (put_code AI cI M' AE cE Y' (by have := hlay.h1; omega) (by have := hlay.h2; omega) (fun x hx => by obtain ⟨h1, h2⟩ := hlay.hM x hx; exact ⟨h2.1, h2.2.1, by have := (mayI_parts h1).2.1; omega⟩) (fun a ha => by have := hlay.hY a ha; have := hlay.h1; omega) (w6.alloc o) (HW.out.keep (K6.out.alloc o)) (RI6.out.keep ((Keeps.refl _ _).alloc o)) (RE6.out.keep ((Keeps.refl _ _).alloc o))).mono fun e w' h => by
          have h2 := lays_puts hlay h
          rw [← hb] at h2
          exact h2
      obtain ⟨ml, hml⟩ : ∃ ml, ml = M'.length := ⟨_, rfl⟩
      obtain ⟨yl, hyl⟩ : ∃ yl, yl = Y'.length := ⟨_, rfl⟩
      rw [← hml] at hvI PX
      rw [← hyl] at hvE PX
      subst hvI hvE
      clear oI oE k6 RI6 RE6 hlay hb hml hyl TB HK5
      go_wp2_with fail
      refine (PX.out _).mono ?_
      rintro e w7 ⟨⟨v, rfl, ob⟩, k7⟩
      have K7 := Lib.hid ((K6.out.alloc _).trans k7 (fun _ _ h => h))
      obtain ⟨G, cG, rfl⟩ := own_formk ob
      obtain ⟨hrG, _, _⟩ := own_rdB ob rfl
      have cv1 := conv_any w7 w7.heap.size G cG b hrG
      have cv2 := conv_any w7 w.heap.size A3 c3 b (RdB_up HBR.out K7.out)
      rw [← HLB.out] at cv1 cv2
      rw [← HLB.out]
      obtain ⟨S, hS⟩ : ∃ S, S = strOfNums b := ⟨_, rfl⟩
      rw [← hS] at cv1 cv2
      clear hS k7 ob hrG PX K6
      go_wp2
      go_ret
      exact ⟨rfl, K7.out⟩
    · have K6 := Lib.hid (HK5.out.trans k6 (fun _ _ h => h))
      have hb1 : ¬ (er : Int) = 0 := by omega
      have hb2 : decide ((er : Int) = 0) = false := decide_eq_false hb1
      obtain ⟨ev, hev⟩ : ∃ ev, ev = (er : Int) := ⟨_, rfl⟩
      rw [← hev] at hb1 hb2 ⊢
      clear hev her k6 TB HK5
      go_wp2
      go_ret
      exact ⟨rfl, K6.out.alloc _⟩

end Go.Proofs.YtoombjbpblighaaDoor
