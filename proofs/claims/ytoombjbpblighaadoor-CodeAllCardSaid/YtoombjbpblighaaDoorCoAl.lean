/-
  Layer 8: the walk of CodeAll. Written by an AI agent.
-/
import Derived.Test.YtoombjbpblighaaDoorReB
import Derived.Test.YtoombjbpblighaaDoorCoBk
namespace Go.Proofs.YtoombjbpblighaaDoor
open Go Go.RowKit Go.Shelf
set_option linter.unusedVariables false
set_option linter.unusedSimpArgs false

/-- What Put tells: its error, and its bytes. -/
noncomputable def putC (M : List Ins) (Y : List Int) : Nat := open Classical in if 1200 < M.length ∨ 6 < Y.length then 4 else if (∃ x ∈ M, mayI x = false) ∨ (∃ a ∈ Y, a < 0 ∨ (M.length : Int) < a) then 1 else 0
noncomputable def putL (M : List Ins) (Y : List Int) : List Int := if putC M Y = 0 then putB M Y else []
def Laid (C : Nat) (l : List Int) (w : World) (e : Ending) (w' : World) : Prop := (∃ A c, e = .returned (.tuple #[.slice A l.length c, .int .i64 (C : Int)]) ∧ RdB w' w'.heap.size A l) ∧ Keeps (fun _ => False) w w'
theorem laid_of {M : List Ins} {Y : List Int} {w : World} {e : Ending} {w' : World} (hp : PutE M Y w e w') : Laid (putC M Y) (putL M Y) w e w' := by
  obtain ⟨hput, k⟩ := hp
  refine ⟨?_, k⟩
  unfold putL putC
  by_cases h1 : 1200 < M.length ∨ 6 < Y.length
  · rw [if_pos h1] at hput ⊢
    exact ⟨none, 0, hput, RdB.nil _ _ _⟩
  · rw [if_neg h1] at hput ⊢
    by_cases h2 : (∃ x ∈ M, mayI x = false) ∨ (∃ a ∈ Y, a < 0 ∨ (M.length : Int) < a)
    · rw [if_pos h2] at hput ⊢
      exact ⟨none, 0, hput, RdB.nil _ _ _⟩
    · rw [if_neg h2] at hput ⊢
      obtain ⟨v, h3, h4, _⟩ := hput
      obtain ⟨A, c, rfl⟩ := own_formk h4
      exact ⟨A, c, h3, (own_rdB h4 rfl).1⟩
/-- What Take tells. -/
noncomputable def tkOk (T : RS × List Ins × List Int) : Bool := decide (T.1.e = 0 ∧ T.1.l.length = 0)
noncomputable def tkC (T : RS × List Ins × List Int) : Int := if tkOk T = true then 0 else if T.1.e = 0 then 3 else (T.1.e : Int)
noncomputable def tkL (T : RS × List Ins × List Int) : List Ins := if tkOk T = true then T.2.1 else []
noncomputable def tkZ (T : RS × List Ins × List Int) : List Int := if tkOk T = true then T.2.2 else []
def Tkn (C : Int) (L : List Ins) (Z : List Int) (w : World) (e : Ending) (w' : World) : Prop := (∃ AI cI AE cE, e = .returned (.tuple #[.agg #[.slice AI L.length cI, .slice AE Z.length cE], .int .i64 C]) ∧ RdI w' AI L ∧ RdZ w' AE Z) ∧ Keeps (fun _ => False) w w'
theorem tkn_of {l : List Int} {w : World} {e : Ending} {w' : World} (h : TakeE l w e w') : Tkn (tkC (codeE ⟨l, 0⟩)) (tkL (codeE ⟨l, 0⟩)) (tkZ (codeE ⟨l, 0⟩)) w e w' := by
  obtain ⟨h, k⟩ := h
  refine ⟨?_, k⟩
  generalize codeE ⟨l, 0⟩ = T at h
  unfold tkC tkL tkZ tkOk
  by_cases g : T.1.e = 0 ∧ T.1.l = []
  · have g2 : decide (T.1.e = 0 ∧ T.1.l.length = 0) = true := decide_eq_true ⟨g.1, by rw [g.2]; rfl⟩
    rw [if_pos g] at h
    rw [g2, if_pos rfl, if_pos rfl, if_pos rfl]
    obtain ⟨vI, vE, he, oI, oE⟩ := h
    obtain ⟨AI, cI, rfl⟩ := own_formk oI
    obtain ⟨AE, cE, rfl⟩ := own_formk oE
    exact ⟨AI, cI, AE, cE, he, own_rdI oI rfl, own_rdZ oE rfl⟩
  · have g2 : decide (T.1.e = 0 ∧ T.1.l.length = 0) = false := decide_eq_false fun h => g ⟨h.1, List.eq_nil_of_length_eq_zero h.2⟩
    rw [if_neg g] at h
    rw [g2, if_neg (by simp), if_neg (by simp), if_neg (by simp)]
    exact ⟨none, 0, none, 0, h, fun h => absurd h (Nat.lt_irrefl _), fun h => absurd h (Nat.lt_irrefl _)⟩
theorem tk_small {l : List Int} (hl : ∀ x ∈ l, 0 ≤ x ∧ x < 256) : (tkL (codeE ⟨l, 0⟩)).length ≤ 1000000 ∧ (tkZ (codeE ⟨l, 0⟩)).length ≤ 1000000 := by
  unfold tkL tkZ tkOk
  by_cases g : (codeE ⟨l, 0⟩).1.e = 0 ∧ (codeE ⟨l, 0⟩).1.l.length = 0
  · rw [decide_eq_true g, if_pos rfl, if_pos rfl]
    obtain ⟨_, i2, i3, _⟩ := codeE_inv ⟨l, 0⟩ hl g.1
    omega
  · rw [decide_eq_false g, if_neg (by simp), if_neg (by simp)]
    simp

set_option maxRecDepth 100000 in
set_option maxHeartbeats 32000000 in
theorem all_code_walk (I : Option Addr) (c : Nat) (L : List Ins) (E : Option Addr) (d : Nat) (Z : List Int) (A3 : Option Addr) (c3 : Nat) (l : List Int) (hL : L.length ≤ 9223372036854775807) (hZd : Z.length ≤ d) (hd : d ≤ 9223372036854775807) (hlc : l.length ≤ c3) (hc3 : c3 ≤ 9223372036854775807) (hlok : ∀ x ∈ l, 0 ≤ x ∧ x < 256) (hok : ∀ x ∈ L, InsR x) (hzo : ∀ a ∈ Z, -9223372036854775808 ≤ a ∧ a ≤ 9223372036854775807) (w : World) (hw : CodeW w) (hI : RdI w I L) (hE : RdZ w E Z) (hl : RdB w w.heap.size A3 l) :
    Calls Tryd.prog 11 #[.agg #[.slice I L.length c, .slice E Z.length d], .slice A3 l.length c3] w fun e w' => e = .returned (.bool true) ∧ Keeps (fun _ => False) w w' := by
  obtain ⟨i5, hi5, h5z0, h5z1, h5z2⟩ := info_parts info5
  have HW := Lib.hid hw
  have HI := Lib.hid hI
  have HE := Lib.hid hE
  obtain ⟨M, hM⟩ : ∃ M, M = (L.take 40).map Ins.few := ⟨_, rfl⟩
  obtain ⟨Y, hY⟩ : ∃ Y, Y = Z.take (min Z.length 8) := ⟨_, rfl⟩
  obtain ⟨b, hb⟩ : ∃ b, b = l.take 3000 := ⟨_, rfl⟩
  have hMl : M.length = min L.length 40 := by rw [hM, List.length_map, List.length_take]; omega
  have hYl : Y.length = min Z.length 8 := by rw [hY, List.length_take]; omega
  have hbl : b.length = min l.length 3000 := by rw [hb, List.length_take]; omega
  have hMok : ∀ x ∈ M, InsR x ∧ x.s.size ≤ 50 := fun x hx => by
    rw [hM] at hx
    obtain ⟨y, hy, rfl⟩ := List.mem_map.1 hx
    exact ⟨hok y (List.mem_of_mem_take hy), few_size2 y⟩
  have hYok : ∀ a ∈ Y, -9223372036854775808 ≤ a ∧ a ≤ 9223372036854775807 := fun a ha => hzo a (List.mem_of_mem_take (by rw [hY] at ha; exact ha))
  have hbok : ∀ x ∈ b, 0 ≤ x ∧ x < 256 := fun x hx => hlok x (List.mem_of_mem_take (by rw [hb] at hx; exact hx))
  have hEY : RdZ w E Y := fun h0 => by
    obtain ⟨b, off, e, hc⟩ := hE (by omega)
    refine ⟨b, off, e, fun k hk => ?_⟩
    have h1 := hc k (by omega)
    have : Y.getD k 0 = Z.getD k 0 := by rw [hY]; show (Z.take _)[k]?.getD 0 = Z[k]?.getD 0; rw [List.getElem?_take, if_pos (by omega)]
    rw [this]
    exact h1
  have hbr : RdB w w.heap.size A3 b := by rw [hb]; exact hl.take 3000
  have SC : Hid (∀ o, Calls Tryd.prog 25 #[] (w.alloc o) fun e w' => e = .returned (.bool true) ∧ Keeps (fun _ => False) (w.alloc o) w') := Lib.hid fun o => shown8_any _ (HW.out.keep ((Keeps.refl _ _).alloc _))
  have FC : Hid (∀ w1, Keeps (fun _ => False) w w1 → Calls Tryd.prog 26 #[.agg #[.slice I L.length c, .slice E Z.length d]] w1 fun e w' => (∃ A c', e = .returned (.agg #[.slice A M.length c', .slice E Y.length d]) ∧ w'.ownsRow 0 52 4 (.slice A M.length c') M.length (flatI M) ∧ (∀ g, (Value.slice A M.length c').ownBlock = some g → w1.heap.size ≤ g)) ∧ Keeps (fun _ => False) w1 w') := by
    rw [hMl, hYl, hM]
    exact Lib.hid fun w1 k => few_any I c L E Z.length d hZd hd hL w1 (HI.out.keep k)
  have BC : Hid (∀ w1, Calls Tryd.prog 27 #[.slice A3 l.length c3] w1 fun e w' => e = .returned (.slice A3 b.length c3) ∧ w1 = w') := by
    rw [hbl]
    exact Lib.hid fun w1 => short8_any A3 l.length c3 hlc hc3 w1
  obtain ⟨q, hq⟩ : ∃ q, q = M.length := ⟨_, rfl⟩
  obtain ⟨me, hme⟩ : ∃ me, me = Y.length := ⟨_, rfl⟩
  obtain ⟨lb, hlb⟩ : ∃ lb, lb = b.length := ⟨_, rfl⟩
  obtain ⟨nL, hnL⟩ : ∃ n, n = L.length := ⟨_, rfl⟩
  obtain ⟨nZ, hnZ⟩ : ∃ n, n = Z.length := ⟨_, rfl⟩
  obtain ⟨nl, hnl⟩ : ∃ n, n = l.length := ⟨_, rfl⟩
  have hq40 : q ≤ 40 := by omega
  have hme8 : me ≤ 8 := by omega
  have hlb3 : lb ≤ 3000 := by omega
  have hlbc : lb ≤ c3 := by omega
  rw [← hq, ← hme, ← hnL, ← hnZ] at FC
  rw [← hnl, ← hlb] at BC
  rw [← hnL, ← hnZ, ← hnl]
  have HQ := Lib.hid hq
  have HME := Lib.hid hme
  have HLB := Lib.hid hlb
  have HMOK := Lib.hid hMok
  have HYOK := Lib.hid hYok
  have HBOK := Lib.hid hbok
  have HEY := Lib.hid hEY
  have HBR := Lib.hid hbr
  clear hw hI hE hM hY hMl hYl hMok hYok hEY hq hme hnL hnZ hok hzo hL hZd hd hb hbl hbok hlok hbr hl hlc hlb hnl
  go_enter Tryd.func11, Tryd.ntmps11
  go_wp2_with fail
  refine (SC.out _).mono ?_
  rintro e w1 ⟨rfl, k1⟩
  obtain ⟨p0, p1, p2, p3⟩ := two_new w (.slice I nL c) (.slice E nZ d) 41 rfl
  have hz : (w.alloc (.cells #[.slice I nL c, .slice E nZ d] 41)).heap.size = w.heap.size + 1 := by simp
  have c0 := (k1.cell (b := w.heap.size) (o := 0) (by omega) (fun h => h)).trans p0
  have c1 := (k1.cell (b := w.heap.size) (o := 1) (by omega) (fun h => h)).trans p1
  have f0 := (k1.frozen (b := w.heap.size) (o := 0) (by omega) (fun h => h)).trans p2
  have f1 := (k1.frozen (b := w.heap.size) (o := 1) (by omega) (fun h => h)).trans p3
  have kw1 : Keeps (fun _ => False) w w1 := ((Keeps.refl _ _).alloc _).trans k1 (fun _ _ h => h)
  obtain ⟨pn, hpn⟩ : ∃ pn, pn = w.heap.size := ⟨_, rfl⟩
  rw [← hpn] at c0 c1 f0 f1 ⊢
  have HPN := Lib.hid hpn
  have FC1 := Lib.hid (FC.out w1 kw1)
  have K1 := Lib.hid kw1
  have hpb := cell_ltk c0
  clear p0 p1 p2 p3 hz k1 kw1 hpn SC FC
  go_wp2_with fail
  refine FC1.out.mono ?_
  rintro e w2 ⟨⟨A, c', rfl, o2, b2⟩, k2⟩
  have d0 := (k2.cell hpb (fun h => h)).trans c0
  have d1 := (k2.cell hpb (fun h => h)).trans c1
  have g0 := (k2.frozen hpb (fun h => h)).trans f0
  have g1 := (k2.frozen hpb (fun h => h)).trans f1
  have hfin : Keeps (fun _ => False) w ((w2.setCell ⟨pn, 0, none⟩ (.slice A q c')).setCell ⟨pn, 1, none⟩ (.slice E me d)) := by
    have hp : ∀ i : Nat, (⟨pn, i, none⟩ : Addr).block < w.heap.size → False := fun i h => by have h : pn < w.heap.size := h; have := HPN.out; omega
    exact ((K1.out.trans k2 (fun _ _ h => h)).setCell (p := ⟨pn, 0, none⟩) (hp 0) _).setCell (p := ⟨pn, 1, none⟩) (hp 1) _
  have hown : ((w2.setCell ⟨pn, 0, none⟩ (.slice A q c')).setCell ⟨pn, 1, none⟩ (.slice E me d)).ownsRow 0 52 4 (.slice A q c') q (flatI M) := by
    have hb : ∀ k, (Value.slice A q c').ownBlock = some k → k ≠ pn := fun k hk => by have := b2 k hk; omega
    exact ownsRow_keep (ownsRow_keep o2 (fun k hk => Below.heap_setCell _ _ _ k (fun e => hb k hk e))) (fun k hk => Below.heap_setCell _ _ _ k (fun e => hb k hk e))
  have K2 := Lib.hid hfin
  have HOWN := Lib.hid hown
  have e0 : ((w2.setCell ⟨pn, 0, none⟩ (.slice A q c')).setCell ⟨pn, 1, none⟩ (.slice E me d)).cell? ⟨pn, 0, none⟩ = some (.slice A q c') := (cell_other _ 1 0 _ (.inl (by omega))).trans (cell_same _ _ _ _ _ d0)
  have e1 : ((w2.setCell ⟨pn, 0, none⟩ (.slice A q c')).setCell ⟨pn, 1, none⟩ (.slice E me d)).cell? ⟨pn, 1, none⟩ = some (.slice E me d) := cell_same _ _ _ _ _ ((cell_other _ 0 1 _ (.inl (by omega))).trans d1)
  have HE0 := Lib.hid e0
  have HE1 := Lib.hid e1
  have hp2 := cell_ltk d0
  clear o2 b2 k2 hfin hown e0 e1 c0 c1 f0 f1 FC1 hpb
  go_upto_region 3 with fail
  generalize hw3 : (w2.setCell _ _).setCell _ _ = w3
  rw [hw3] at HE0 HE1 K2 HOWN
  have RI3 := Lib.hid (own_rdI HOWN.out HQ.out)
  have hok3 : ∀ x ∈ M, InsOk x := fun x hx => by obtain ⟨h1, h2⟩ := HMOK.out x hx; exact ⟨h1.1, h1.2.1, by omega⟩
  have PC := fun wq (k : Keeps (fun _ => False) w3 wq) => put_code A c' M E d Y (by rw [← HQ.out]; omega) (by rw [← HME.out]; omega) hok3 HYOK.out wq (HW.out.keep (K2.out.trans k (fun _ _ h => h))) (RI3.out.keep k) (HEY.out.keep (K2.out.trans k (fun _ _ h => h)))
  have RC := fun wq (k : Keeps (fun _ => False) w3 wq) => rput_code A c' M E d Y (by rw [← HQ.out]; omega) (by rw [← HME.out]; omega) hok3 wq (RI3.out.keep k) (HEY.out.keep (K2.out.trans k (fun _ _ h => h)))
  rw [← HQ.out, ← HME.out] at PC RC
  obtain ⟨C1, hC1⟩ : ∃ C, C = putC M Y := ⟨_, rfl⟩
  obtain ⟨P1, hP1⟩ : ∃ P, P = putL M Y := ⟨_, rfl⟩
  have HPC : Hid (∀ wq, Keeps (fun _ => False) w3 wq → Calls Tryd.prog 28 #[.agg #[.slice A q c', .slice E me d]] wq (Laid C1 P1 wq)) := Lib.hid fun wq k => (PC wq k).mono fun e w' h => by rw [hC1, hP1]; exact laid_of h
  have HRC : Hid (∀ wq, Keeps (fun _ => False) w3 wq → Calls Tryd.prog 29 #[.agg #[.slice A q c', .slice E me d]] wq (Laid C1 P1 wq)) := Lib.hid fun wq k => (RC wq k).mono fun e w' h => by rw [hC1, hP1]; exact laid_of h
  have e0 := HE0.out
  have e1 := HE1.out
  have hp3 := cell_ltk e0
  have HCE : Hid (∀ wq, Keeps (fun _ => False) w3 wq → wq.cell? ⟨pn, 0, none⟩ = some (.slice A q c') ∧ wq.cell? ⟨pn, 1, none⟩ = some (.slice E me d) ∧ pn < wq.heap.size) := Lib.hid fun wq k => ⟨(k.cell hp3 (fun h => h)).trans e0, (k.cell hp3 (fun h => h)).trans e1, Nat.lt_of_lt_of_le hp3 k.size⟩
  clear hw3 PC RC d0 d1 g0 g1 hp2 HE0 HE1 hC1 hP1 hok3
  go_wp2_with fail
  refine (BC.out _).mono ?_
  rintro e wb ⟨rfl, rfl⟩
  go_wp2_with fail
  refine (HPC.out w3 (Keeps.refl _ _)).mono ?_
  rintro e w4 ⟨⟨A4, c4, rfl, r4⟩, k4⟩
  obtain ⟨pl, hpl⟩ : ∃ pl, pl = P1.length := ⟨_, rfl⟩
  rw [← hpl]
  have HPL := Lib.hid hpl
  have K4 := Lib.hid k4
  have R4 := Lib.hid r4
  clear e0 e1 hp3 k4 r4 HPC BC hpl
  obtain ⟨e0, e1, hp4⟩ := HCE.out w4 K4.out
  have RCX := Lib.hid (HRC.out w4 K4.out)
  go_wp2_with fail
  refine RCX.out.mono ?_
  rintro e w5 ⟨⟨A5, c5, rfl, r5⟩, k5⟩
  rw [← HPL.out]
  have K5 := Lib.hid (K4.out.trans k5 (fun _ _ h => h))
  have R5 := Lib.hid r5
  have R45 := Lib.hid (RdB_up R4.out k5)
  clear e0 e1 hp4 k5 r5 HRC RCX R4 K4
  obtain ⟨T, hT⟩ : ∃ T, T = codeE ⟨b, 0⟩ := ⟨_, rfl⟩
  obtain ⟨C2, hC2⟩ : ∃ C, C = tkC (codeE ⟨b, 0⟩) := ⟨_, rfl⟩
  obtain ⟨L2, hL2⟩ : ∃ L, L = tkL (codeE ⟨b, 0⟩) := ⟨_, rfl⟩
  obtain ⟨Z2, hZ2⟩ : ∃ Z, Z = tkZ (codeE ⟨b, 0⟩) := ⟨_, rfl⟩
  have hsm := tk_small HBOK.out
  rw [← hL2, ← hZ2] at hsm
  have TKX : Hid (∀ A5 c5 wq, Keeps (fun _ => False) w3 wq → RdB wq wq.heap.size A5 b → b.length ≤ c5 → c5 ≤ 9223372036854775807 → Calls Tryd.prog 30 #[.slice A5 b.length c5] wq (Tkn C2 L2 Z2 wq)) := Lib.hid fun A5 c5 wq k hr h1 h2 => by
    rw [hC2, hL2, hZ2]
    exact (take_any A5 c5 b h1 h2 HBOK.out wq (HW.out.keep (K2.out.trans k (fun _ _ h => h))) hr).mono fun e w' h => tkn_of h
  have RKX : Hid (∀ wq, Keeps (fun _ => False) w3 wq → Calls Tryd.prog 31 #[.slice A3 b.length c3] wq (Tkn C2 L2 Z2 wq)) := Lib.hid fun wq k => by
    rw [hC2, hL2, hZ2]
    have kw := K2.out.trans k (fun _ _ h => h)
    exact (rtake_any A3 c3 b (by rw [← HLB.out]; exact hlbc) hc3 HBOK.out wq (fun h0 => by
      obtain ⟨bb, off, e, h1, h2⟩ := (RdB_up HBR.out kw) h0
      exact ⟨bb, off, e, Nat.lt_of_lt_of_le h1 kw.size, h2⟩)).mono fun e w' h => tkn_of h
  rw [← HLB.out] at RKX
  clear hT hC2 hL2 hZ2
  obtain ⟨sm1, sm2⟩ := hsm
  obtain ⟨l2, hl2⟩ : ∃ l2, l2 = L2.length := ⟨_, rfl⟩
  obtain ⟨z2, hz2⟩ : ∃ z2, z2 = Z2.length := ⟨_, rfl⟩
  have HL2 := Lib.hid hl2
  have HZ2 := Lib.hid hz2
  have SM : Hid (∀ AI AI' cI cI' AE AE' cE cE' wq, RdI wq AI L2 → RdI wq AI' L2 → RdZ wq AE Z2 → RdZ wq AE' Z2 → Calls Tryd.prog 32 #[.agg #[.slice AI l2 cI, .slice AE z2 cE], .agg #[.slice AI' l2 cI', .slice AE' z2 cE']] wq fun e w' => e = .returned (.bool true) ∧ Keeps (fun _ => False) wq w') := Lib.hid fun AI AI' cI cI' AE AE' cE cE' wq r1 r2 r3 r4 => by
    rw [HL2.out, HZ2.out]
    exact same8_any AI AI' cI cI' L2 AE AE' cE cE' Z2 sm1 sm2 wq r1 r2 r3 r4
  clear hl2 hz2 sm1 sm2
  go_wp2_with (at_builtin
               refine wpList_append_bytes rfl (.tmp 32) (.tmp 33) rfl rfl (.slice (some ⟨w5.heap.size, 0, none⟩) 0 0) [] (by rfl) (own_empty w5) w.heap.size A3 lb c3 b (by rfl) HLB.out (RdB.keep (RdB_up HBR.out (K2.out.trans K5.out (fun _ _ h => h))) ((Keeps.refl _ _).alloc _)) (by show 0 + lb ≤ 1000000; omega) ?_
               intro v6 w6 o6 g6
               obtain ⟨A6, c6, rfl, hr6, hl6, hm6, _, _, hk6⟩ := copied o6 g6
               have TX := Lib.hid (TKX.out A6 c6 w6 (K5.out.trans hk6 (fun _ _ h => h)) hr6 hl6 hm6)
               rw [← HLB.out] at TX ⊢
               have K6 := Lib.hid (K5.out.trans hk6 (fun _ _ h => h))
               have KK6 := Lib.hid hk6
               clear o6 g6 hr6 hk6 hl6 hm6)
  refine TX.out.mono ?_
  rintro e w7 ⟨⟨AI, cI, AE, cE, rfl, rI, rE⟩, k7⟩
  rw [← HL2.out, ← HZ2.out]
  have K7 := Lib.hid (K6.out.trans k7 (fun _ _ h => h))
  have KK7 := Lib.hid (KK6.out.trans k7 (fun _ _ h => h))
  have RI7 := Lib.hid rI
  have RE7 := Lib.hid rE
  clear rI rE k7 TX TKX K6 KK6
  have RX := Lib.hid (fun o => RKX.out (w7.alloc o) (K7.out.alloc o))
  obtain ⟨B7, hB7⟩ : ∃ B7, B7 = w7.heap.size := ⟨_, rfl⟩
  obtain ⟨q70, q71, q72, q73⟩ := two_new w7 (.slice AI l2 cI) (.slice AE z2 cE) 41 rfl
  have kA7 : Keeps (fun _ => False) w7 (w7.alloc (.cells #[.slice AI l2 cI, .slice AE z2 cE] 41)) := (Keeps.refl _ _).alloc _
  have hBs : w7.heap.size < (w7.alloc (.cells #[.slice AI l2 cI, .slice AE z2 cE] 41)).heap.size := cell_ltk q70
  rw [← hB7] at q70 q71 hBs
  have HB7 := Lib.hid hB7
  have Q70 := Lib.hid q70
  have Q71 := Lib.hid q71
  have HBS := Lib.hid hBs
  have KA7 := Lib.hid kA7
  clear q70 q71 q72 q73 kA7 hBs hB7
  go_wp2_with fail
  refine (RX.out _).mono ?_
  rintro e w8 ⟨⟨AI', cI', AE', cE', rfl, rI, rE⟩, k8⟩
  rw [← HL2.out, ← HZ2.out]
  rw [← HB7.out]
  have b0 := (k8.cell HBS.out (fun h => h)).trans Q70.out
  have b1 := (k8.cell HBS.out (fun h => h)).trans Q71.out
  have K8 := Lib.hid ((K7.out.trans KA7.out (fun _ _ h => h)).trans k8 (fun _ _ h => h))
  have KK8 := Lib.hid ((KK7.out.trans KA7.out (fun _ _ h => h)).trans k8 (fun _ _ h => h))
  have hB8 := Nat.lt_of_lt_of_le HBS.out k8.size
  have SX := Lib.hid (fun o => SM.out AI AI' cI cI' AE AE' cE cE' (w8.alloc o) (RI7.out.keep ((KA7.out.trans k8 (fun _ _ h => h)).alloc o)) (rI.keep ((Keeps.refl _ _).alloc o)) (RE7.out.keep ((KA7.out.trans k8 (fun _ _ h => h)).alloc o)) (rE.keep ((Keeps.refl _ _).alloc o)))
  clear rI rE k8 SM Q70 Q71 HBS KA7 RI7 RE7 RX RKX K7 KK7
  go_wp2_with fail
  refine (SX.out _).mono ?_
  rintro e w9 ⟨rfl, k9⟩
  have K9 := Lib.hid ((K8.out.alloc _).trans k9 (fun _ _ h => h))
  have KK9 := Lib.hid ((KK8.out.alloc _).trans k9 (fun _ _ h => h))
  clear b0 b1 hB8 k9 SX K8 KK8
  obtain ⟨e0, e1, hp9⟩ := HCE.out w9 K9.out
  go_wp2_with fail
  clear e0 e1 hp9
  go_loopw [15] (fun s15 wr => ∃ k : Nat, k ≤ q ∧ s15 = .int .i64 k ∧ Keeps (fun _ => False) w9 wr) (fun s15 _ => q - (intOf s15).toNat)
  case atStart => exact ⟨0, Nat.zero_le _, rfl, Keeps.refl _ _⟩
  case round =>
    obtain ⟨k, hk, rfl, kr⟩ := hrel
    have KR := Lib.hid kr
    have kr3 := K9.out.trans kr (fun _ _ h => h)
    have KR3 := Lib.hid kr3
    obtain ⟨e0, e1, hpr⟩ := HCE.out wr kr3
    clear kr kr3
    by_cases h1 : k < q
    · have h1I : (k : Int) < (q : Int) := by omega
      have h1d : decide ((k : Int) < (q : Int)) = true := decide_eq_true h1I
      have hk0 : (0 : Int) ≤ (k : Int) := by omega
      obtain ⟨bi, oi, hAe, hbi, hci⟩ := RI3.out.cellsAt (i := k) (by rw [← HQ.out]; exact h1)
      obtain ⟨x, hx⟩ : ∃ x : Ins, x = M.getD k default := ⟨_, rfl⟩
      have hml : k < M.length := by rw [← HQ.out]; exact h1
      have hxm : x ∈ M := by rw [hx]; simp [List.getD, hml]
      obtain ⟨⟨r0, r1, r2, r3, r4, r5⟩, hs50⟩ := HMOK.out x hxm
      rw [← hx] at hci
      obtain ⟨d0, d1, d2, d3⟩ := hci wr (KR3.out.block bi hbi (fun h => h))
      have hbi2 := cell_ltk d0
      have hcw : ∀ w', Keeps (fun _ => False) wr w' → CodeW w' := fun w' k => HW.out.keep ((K2.out.trans KR3.out (fun _ _ h => h)).trans k (fun _ _ h => h))
      have F33 : Hid (∀ w', Keeps (fun _ => False) wr w' → Calls Tryd.prog 33 #[.agg #[.int .i64 x.o, .int .i64 x.a, .int .i64 x.b, .string x.s]] w' fun e w'' => e = .returned (.bool (mayN x.o x.a x.b x.s)) ∧ Keeps (fun _ => False) w' w'') := Lib.hid fun w' k => may_any x.o x.a x.b x.s r0 r1 w' (hcw w' k)
      have F34 : Hid (∀ w', Keeps (fun _ => False) wr w' → Calls Tryd.prog 34 #[.agg #[.int .i64 x.o, .int .i64 x.a, .int .i64 x.b, .string x.s]] w' fun e w'' => e = .returned (.bool (mayN x.o x.a x.b x.s)) ∧ Keeps (fun _ => False) w' w'') := Lib.hid fun w' k => rmay_any x.o x.a x.b x.s w'
      have F35 : Hid (∀ w', Keeps (fun _ => False) wr w' → Calls Tryd.prog 35 #[.agg #[.int .i64 x.o, .int .i64 x.a, .int .i64 x.b, .string x.s]] w' fun e w'' => e = .returned (.string (ofL (lineN x.o x.a x.b x.s.data.toList))) ∧ Keeps (fun _ => False) w' w'') := Lib.hid fun w' k => cline_any x.o x.a x.b x.s r0 r1 r2 r3 r4 r5 (by omega) w' (hcw w' k)
      have F36 : Hid (∀ w', Keeps (fun _ => False) wr w' → Calls Tryd.prog 36 #[.agg #[.int .i64 x.o, .int .i64 x.a, .int .i64 x.b, .string x.s]] w' fun e w'' => e = .returned (.string (ofL (lineN x.o x.a x.b x.s.data.toList))) ∧ Keeps (fun _ => False) w' w'') := Lib.hid fun w' k => rline_any x.o x.a x.b x.s r0 r1 r2 r3 r4 r5 (by omega) w' (hcw w' k)
      have F37 : Hid (∀ w', Keeps (fun _ => False) wr w' → Calls Tryd.prog 37 #[.int .i64 x.o] w' fun e w'' => e = .returned (.string (ofL (nameN x.o))) ∧ Keeps (fun _ => False) w' w'') := Lib.hid fun w' k => name_op x.o w' (hcw w' k)
      have F38 : Hid (∀ w', Keeps (fun _ => False) wr w' → Calls Tryd.prog 38 #[.int .i64 x.o] w' fun e w'' => e = .returned (.string (ofL (nameN x.o))) ∧ Keeps (fun _ => False) w' w'') := Lib.hid fun w' k => rname_any x.o w'
      obtain ⟨mb, hmb⟩ : ∃ mb, mb = mayN x.o x.a x.b x.s := ⟨_, rfl⟩
      obtain ⟨lb9, hlb9⟩ : ∃ l : ByteArray, l = ofL (lineN x.o x.a x.b x.s.data.toList) := ⟨_, rfl⟩
      obtain ⟨nb9, hnb9⟩ : ∃ l : ByteArray, l = ofL (nameN x.o) := ⟨_, rfl⟩
      rw [← hmb] at F33 F34
      rw [← hlb9] at F35 F36
      rw [← hnb9] at F37 F38
      clear hci hx hml hxm hcw hmb hlb9 hnb9 r0 r1 r2 r3 r4 r5 hs50 hpr e1
      subst hAe
      go_upto_region 12 with fail
      refine wp_region_held_drew (S := fun w' => w'.cell? ⟨pn, 0, none⟩ = some (.slice (some ⟨bi, oi, none⟩) q c') ∧ w'.cell? ⟨bi, oi + k * 4, none⟩ = some (.int .i64 x.o) ∧ w'.cell? ⟨bi, oi + k * 4 + 1, none⟩ = some (.int .i64 x.a) ∧ w'.cell? ⟨bi, oi + k * 4 + 2, none⟩ = some (.int .i64 x.b) ∧ w'.cell? ⟨bi, oi + k * 4 + 3, none⟩ = some (.string x.s) ∧ Keeps (fun _ => False) wr w') (by kernel_rfl) (⟨e0, d0, d1, d2, d3, (Keeps.refl _ _).drew⟩) (fun hHeld => ?_)
      refine wpAnyH_take (i := 0) (v := ?_) rfl (by kernel_rfl) (by kernel_rfl) (by kernel_rfl) (fun _ _ _ h => h) (Or.inl ⟨by rfl, ?_⟩) (by assumption) ?_
      rotate_left
      · (intro w' hSw; (try dsimp only at hSw); obtain ⟨s0, t0, t1, t2, t3, sk⟩ := hSw; go_simp; (try (with_reducible rfl)))
      simp only [Act.put, List.getElem_toArray, List.getElem_cons_zero, List.setIfInBounds_toArray, List.set_cons_succ, List.set_cons_zero]
      refine wpAnyH_take (i := 1) (v := ?_) rfl (by kernel_rfl) (by kernel_rfl) (by kernel_rfl) (fun _ _ _ h => h) (Or.inl ⟨by rfl, ?_⟩) (by assumption) ?_
      rotate_left
      · (intro w' hSw; (try dsimp only at hSw); obtain ⟨s0, t0, t1, t2, t3, sk⟩ := hSw; go_simp; (try (with_reducible rfl)))
      simp only [Act.put, List.getElem_toArray, List.getElem_cons_succ, List.getElem_cons_zero, List.setIfInBounds_toArray, List.set_cons_succ, List.set_cons_zero]
      refine wpAnyH_take (i := 2) (v := ?_) rfl (by kernel_rfl) (by kernel_rfl) (by kernel_rfl) (fun _ _ _ h => h) (Or.inl ⟨by rfl, ?_⟩) (by assumption) ?_
      rotate_left
      · (intro w' hSw; (try dsimp only at hSw); obtain ⟨s0, t0, t1, t2, t3, sk⟩ := hSw; go_simp; (try (with_reducible rfl)))
      simp only [Act.put, List.getElem_toArray, List.getElem_cons_succ, List.getElem_cons_zero, List.setIfInBounds_toArray, List.set_cons_succ, List.set_cons_zero]
      refine wpAnyH_take (i := 3) (v := ?_) rfl (by kernel_rfl) (by kernel_rfl) (by kernel_rfl) (fun _ _ _ h => h) (Or.inl ⟨by rfl, ?_⟩) (by assumption) ?_
      rotate_left
      · (intro w' hSw; (try dsimp only at hSw); obtain ⟨s0, t0, t1, t2, t3, sk⟩ := hSw; go_simp; (try (with_reducible rfl)))
      simp only [Act.put, List.getElem_toArray, List.getElem_cons_succ, List.getElem_cons_zero, List.setIfInBounds_toArray, List.set_cons_succ, List.set_cons_zero]
      refine wpAnyH_take (i := 4) (v := ?_) rfl (by kernel_rfl) (by kernel_rfl) (by kernel_rfl) (fun _ _ _ h => h) (Or.inl ⟨by rfl, ?_⟩) (by assumption) ?_
      rotate_left
      · (intro w' hSw; (try dsimp only at hSw); obtain ⟨s0, t0, t1, t2, t3, sk⟩ := hSw; go_simp; (try (with_reducible rfl)))
      simp only [Act.put, List.getElem_toArray, List.getElem_cons_succ, List.getElem_cons_zero, List.setIfInBounds_toArray, List.set_cons_succ, List.set_cons_zero]
      refine wpAnyH_take (i := 6) (v := ?_) rfl (by kernel_rfl) (by kernel_rfl) (by kernel_rfl) (fun _ _ _ h => h) (Or.inl ⟨by rfl, ?_⟩) (by assumption) ?_
      rotate_left
      · (intro w' hSw; (try dsimp only at hSw); obtain ⟨s0, t0, t1, t2, t3, sk⟩ := hSw; go_simp; (try (with_reducible rfl)))
      simp only [Act.put, List.getElem_toArray, List.getElem_cons_succ, List.getElem_cons_zero, List.setIfInBounds_toArray, List.set_cons_succ, List.set_cons_zero]
      refine wpAnyH_take (i := 7) (v := ?_) rfl (by kernel_rfl) (by kernel_rfl) (by kernel_rfl) (fun _ _ _ h => h) (Or.inl ⟨by rfl, ?_⟩) (by assumption) ?_
      rotate_left
      · (intro w' hSw; (try dsimp only at hSw); obtain ⟨s0, t0, t1, t2, t3, sk⟩ := hSw; go_simp; (try (with_reducible rfl)))
      simp only [Act.put, List.getElem_toArray, List.getElem_cons_succ, List.getElem_cons_zero, List.setIfInBounds_toArray, List.set_cons_succ, List.set_cons_zero]
      refine wpAnyH_take (i := 8) (v := ?_) rfl (by kernel_rfl) (by kernel_rfl) (by kernel_rfl) (fun _ _ _ h => h) (Or.inl ⟨by rfl, ?_⟩) (by assumption) ?_
      rotate_left
      · (intro w' hSw; (try dsimp only at hSw); obtain ⟨s0, t0, t1, t2, t3, sk⟩ := hSw; go_simp; (try (with_reducible rfl)))
      simp only [Act.put, List.getElem_toArray, List.getElem_cons_succ, List.getElem_cons_zero, List.setIfInBounds_toArray, List.set_cons_succ, List.set_cons_zero]
      refine wpAnyH_take (i := 9) (v := ?_) rfl (by kernel_rfl) (by kernel_rfl) (by kernel_rfl) (fun _ _ _ h => h) (Or.inl ⟨by rfl, ?_⟩) (by assumption) ?_
      rotate_left
      · (intro w' hSw; (try dsimp only at hSw); obtain ⟨s0, t0, t1, t2, t3, sk⟩ := hSw; go_simp; (try (with_reducible rfl)))
      simp only [Act.put, List.getElem_toArray, List.getElem_cons_succ, List.getElem_cons_zero, List.setIfInBounds_toArray, List.set_cons_succ, List.set_cons_zero]
      refine wpAnyH_take (i := 10) (v := ?_) rfl (by kernel_rfl) (by kernel_rfl) (by kernel_rfl) (fun _ _ _ h => h) (Or.inl ⟨by rfl, ?_⟩) (by assumption) ?_
      rotate_left
      · (intro w' hSw; (try dsimp only at hSw); obtain ⟨s0, t0, t1, t2, t3, sk⟩ := hSw; go_simp; (try (with_reducible rfl)))
      simp only [Act.put, List.getElem_toArray, List.getElem_cons_succ, List.getElem_cons_zero, List.setIfInBounds_toArray, List.set_cons_succ, List.set_cons_zero]
      refine wpAnyH_ready (rs := [5]) (by kernel_rfl) (by simp) ?_
      refine AllReadyH.cons rfl (fun K hK => ?_) AllReadyH.nil
      go_simp
      (go_at_call 33; refine (F33.out _ hHeld.2.2.2.2.2).mono ?_; rintro e v33 ⟨rfl, hb4⟩; (try go_simp))
      refine hK.out _ _ ?_ (fun hHeld => ?_)
      · (try dsimp only); exact ⟨(hb4.cell (cell_ltk hHeld.1) (fun h => h)).trans hHeld.1, (hb4.cell (cell_ltk hHeld.2.1) (fun h => h)).trans hHeld.2.1, (hb4.cell (cell_ltk hHeld.2.1) (fun h => h)).trans hHeld.2.2.1, (hb4.cell (cell_ltk hHeld.2.1) (fun h => h)).trans hHeld.2.2.2.1, (hb4.cell (cell_ltk hHeld.2.1) (fun h => h)).trans hHeld.2.2.2.2.1, hHeld.2.2.2.2.2.trans hb4 (fun _ _ h => h)⟩
      clear hK K
      refine wpAnyH_ready (rs := [11]) (by kernel_rfl) (by simp) ?_
      refine AllReadyH.cons rfl (fun K hK => ?_) AllReadyH.nil
      go_simp
      (go_at_call 34; refine (F34.out _ hHeld.2.2.2.2.2).mono ?_; rintro e v34 ⟨rfl, hb4⟩; (try go_simp))
      refine hK.out _ _ ?_ (fun hHeld => ?_)
      · (try dsimp only); exact ⟨(hb4.cell (cell_ltk hHeld.1) (fun h => h)).trans hHeld.1, (hb4.cell (cell_ltk hHeld.2.1) (fun h => h)).trans hHeld.2.1, (hb4.cell (cell_ltk hHeld.2.1) (fun h => h)).trans hHeld.2.2.1, (hb4.cell (cell_ltk hHeld.2.1) (fun h => h)).trans hHeld.2.2.2.1, (hb4.cell (cell_ltk hHeld.2.1) (fun h => h)).trans hHeld.2.2.2.2.1, hHeld.2.2.2.2.2.trans hb4 (fun _ _ h => h)⟩
      clear hK K
      refine wpAnyH_take (i := 12) (v := ?_) rfl (by kernel_rfl) (by kernel_rfl) (by kernel_rfl) (fun _ _ _ h => h) (Or.inl ⟨by rfl, ?_⟩) (by assumption) ?_
      rotate_left
      · (intro w' hSw; (try dsimp only at hSw); obtain ⟨s0, t0, t1, t2, t3, sk⟩ := hSw; go_simp; (try (with_reducible rfl)))
      simp only [Act.put, List.getElem_toArray, List.getElem_cons_succ, List.getElem_cons_zero, List.setIfInBounds_toArray, List.set_cons_succ, List.set_cons_zero]
      refine wpAnyH_take (i := 13) (v := ?_) rfl (by kernel_rfl) (by kernel_rfl) (by kernel_rfl) (fun _ _ _ h => h) (Or.inl ⟨by rfl, ?_⟩) (by assumption) ?_
      rotate_left
      · (intro w' hSw; (try dsimp only at hSw); obtain ⟨s0, t0, t1, t2, t3, sk⟩ := hSw; go_simp; (try (with_reducible rfl)))
      simp only [Act.put, List.getElem_toArray, List.getElem_cons_succ, List.getElem_cons_zero, List.setIfInBounds_toArray, List.set_cons_succ, List.set_cons_zero]
      refine wpAnyH_take (i := 14) (v := ?_) rfl (by kernel_rfl) (by kernel_rfl) (by kernel_rfl) (fun _ _ _ h => h) (Or.inl ⟨by rfl, ?_⟩) (by assumption) ?_
      rotate_left
      · (intro w' hSw; (try dsimp only at hSw); obtain ⟨s0, t0, t1, t2, t3, sk⟩ := hSw; go_simp; (try (with_reducible rfl)))
      simp only [Act.put, List.getElem_toArray, List.getElem_cons_succ, List.getElem_cons_zero, List.setIfInBounds_toArray, List.set_cons_succ, List.set_cons_zero]
      refine wpAnyH_take (i := 15) (v := ?_) rfl (by kernel_rfl) (by kernel_rfl) (by kernel_rfl) (fun _ _ _ h => h) (Or.inl ⟨by rfl, ?_⟩) (by assumption) ?_
      rotate_left
      · (intro w' hSw; (try dsimp only at hSw); obtain ⟨s0, t0, t1, t2, t3, sk⟩ := hSw; go_simp; (try (with_reducible rfl)))
      simp only [Act.put, List.getElem_toArray, List.getElem_cons_succ, List.getElem_cons_zero, List.setIfInBounds_toArray, List.set_cons_succ, List.set_cons_zero]
      refine wpAnyH_take (i := 16) (v := ?_) rfl (by kernel_rfl) (by kernel_rfl) (by kernel_rfl) (fun _ _ _ h => h) (Or.inl ⟨by rfl, ?_⟩) (by assumption) ?_
      rotate_left
      · (intro w' hSw; (try dsimp only at hSw); obtain ⟨s0, t0, t1, t2, t3, sk⟩ := hSw; go_simp; (try (with_reducible rfl)))
      simp only [Act.put, List.getElem_toArray, List.getElem_cons_succ, List.getElem_cons_zero, List.setIfInBounds_toArray, List.set_cons_succ, List.set_cons_zero]
      refine wpAnyH_take (i := 17) (v := ?_) rfl (by kernel_rfl) (by kernel_rfl) (by kernel_rfl) (fun _ _ _ h => h) (Or.inl ⟨by rfl, ?_⟩) (by assumption) ?_
      rotate_left
      · (intro w' hSw; (try dsimp only at hSw); obtain ⟨s0, t0, t1, t2, t3, sk⟩ := hSw; go_simp; (try (with_reducible rfl)))
      simp only [Act.put, List.getElem_toArray, List.getElem_cons_succ, List.getElem_cons_zero, List.setIfInBounds_toArray, List.set_cons_succ, List.set_cons_zero]
      refine wpAnyH_take (i := 18) (v := ?_) rfl (by kernel_rfl) (by kernel_rfl) (by kernel_rfl) (fun _ _ _ h => h) (Or.inl ⟨by rfl, ?_⟩) (by assumption) ?_
      rotate_left
      · (intro w' hSw; (try dsimp only at hSw); obtain ⟨s0, t0, t1, t2, t3, sk⟩ := hSw; go_simp; (try (with_reducible rfl)))
      simp only [Act.put, List.getElem_toArray, List.getElem_cons_succ, List.getElem_cons_zero, List.setIfInBounds_toArray, List.set_cons_succ, List.set_cons_zero]
      refine wpAnyH_take (i := 20) (v := ?_) rfl (by kernel_rfl) (by kernel_rfl) (by kernel_rfl) (fun _ _ _ h => h) (Or.inl ⟨by rfl, ?_⟩) (by assumption) ?_
      rotate_left
      · (intro w' hSw; (try dsimp only at hSw); obtain ⟨s0, t0, t1, t2, t3, sk⟩ := hSw; go_simp; (try (with_reducible rfl)))
      simp only [Act.put, List.getElem_toArray, List.getElem_cons_succ, List.getElem_cons_zero, List.setIfInBounds_toArray, List.set_cons_succ, List.set_cons_zero]
      refine wpAnyH_take (i := 21) (v := ?_) rfl (by kernel_rfl) (by kernel_rfl) (by kernel_rfl) (fun _ _ _ h => h) (Or.inl ⟨by rfl, ?_⟩) (by assumption) ?_
      rotate_left
      · (intro w' hSw; (try dsimp only at hSw); obtain ⟨s0, t0, t1, t2, t3, sk⟩ := hSw; go_simp; (try (with_reducible rfl)))
      simp only [Act.put, List.getElem_toArray, List.getElem_cons_succ, List.getElem_cons_zero, List.setIfInBounds_toArray, List.set_cons_succ, List.set_cons_zero]
      refine wpAnyH_take (i := 22) (v := ?_) rfl (by kernel_rfl) (by kernel_rfl) (by kernel_rfl) (fun _ _ _ h => h) (Or.inl ⟨by rfl, ?_⟩) (by assumption) ?_
      rotate_left
      · (intro w' hSw; (try dsimp only at hSw); obtain ⟨s0, t0, t1, t2, t3, sk⟩ := hSw; go_simp; (try (with_reducible rfl)))
      simp only [Act.put, List.getElem_toArray, List.getElem_cons_succ, List.getElem_cons_zero, List.setIfInBounds_toArray, List.set_cons_succ, List.set_cons_zero]
      refine wpAnyH_take (i := 23) (v := ?_) rfl (by kernel_rfl) (by kernel_rfl) (by kernel_rfl) (fun _ _ _ h => h) (Or.inl ⟨by rfl, ?_⟩) (by assumption) ?_
      rotate_left
      · (intro w' hSw; (try dsimp only at hSw); obtain ⟨s0, t0, t1, t2, t3, sk⟩ := hSw; go_simp; (try (with_reducible rfl)))
      simp only [Act.put, List.getElem_toArray, List.getElem_cons_succ, List.getElem_cons_zero, List.setIfInBounds_toArray, List.set_cons_succ, List.set_cons_zero]
      refine wpAnyH_take (i := 24) (v := ?_) rfl (by kernel_rfl) (by kernel_rfl) (by kernel_rfl) (fun _ _ _ h => h) (Or.inl ⟨by rfl, ?_⟩) (by assumption) ?_
      rotate_left
      · (intro w' hSw; (try dsimp only at hSw); obtain ⟨s0, t0, t1, t2, t3, sk⟩ := hSw; go_simp; (try (with_reducible rfl)))
      simp only [Act.put, List.getElem_toArray, List.getElem_cons_succ, List.getElem_cons_zero, List.setIfInBounds_toArray, List.set_cons_succ, List.set_cons_zero]
      refine wpAnyH_ready (rs := [19]) (by kernel_rfl) (by simp) ?_
      refine AllReadyH.cons rfl (fun K hK => ?_) AllReadyH.nil
      go_simp
      (go_at_call 35; refine (F35.out _ hHeld.2.2.2.2.2).mono ?_; rintro e v35 ⟨rfl, hb4⟩; (try go_simp))
      refine hK.out _ _ ?_ (fun hHeld => ?_)
      · (try dsimp only); exact ⟨(hb4.cell (cell_ltk hHeld.1) (fun h => h)).trans hHeld.1, (hb4.cell (cell_ltk hHeld.2.1) (fun h => h)).trans hHeld.2.1, (hb4.cell (cell_ltk hHeld.2.1) (fun h => h)).trans hHeld.2.2.1, (hb4.cell (cell_ltk hHeld.2.1) (fun h => h)).trans hHeld.2.2.2.1, (hb4.cell (cell_ltk hHeld.2.1) (fun h => h)).trans hHeld.2.2.2.2.1, hHeld.2.2.2.2.2.trans hb4 (fun _ _ h => h)⟩
      clear hK K
      refine wpAnyH_ready (rs := [25]) (by kernel_rfl) (by simp) ?_
      refine AllReadyH.cons rfl (fun K hK => ?_) AllReadyH.nil
      go_simp
      (go_at_call 36; refine (F36.out _ hHeld.2.2.2.2.2).mono ?_; rintro e v36 ⟨rfl, hb4⟩; (try go_simp))
      refine hK.out _ _ ?_ (fun hHeld => ?_)
      · (try dsimp only); exact ⟨(hb4.cell (cell_ltk hHeld.1) (fun h => h)).trans hHeld.1, (hb4.cell (cell_ltk hHeld.2.1) (fun h => h)).trans hHeld.2.1, (hb4.cell (cell_ltk hHeld.2.1) (fun h => h)).trans hHeld.2.2.1, (hb4.cell (cell_ltk hHeld.2.1) (fun h => h)).trans hHeld.2.2.2.1, (hb4.cell (cell_ltk hHeld.2.1) (fun h => h)).trans hHeld.2.2.2.2.1, hHeld.2.2.2.2.2.trans hb4 (fun _ _ h => h)⟩
      clear hK K
      refine wpAnyH_take (i := 26) (v := ?_) rfl (by kernel_rfl) (by kernel_rfl) (by kernel_rfl) (fun _ _ _ h => h) (Or.inl ⟨by rfl, ?_⟩) (by assumption) ?_
      rotate_left
      · (intro w' hSw; (try dsimp only at hSw); obtain ⟨s0, t0, t1, t2, t3, sk⟩ := hSw; go_simp; (try (with_reducible rfl)))
      simp only [Act.put, List.getElem_toArray, List.getElem_cons_succ, List.getElem_cons_zero, List.setIfInBounds_toArray, List.set_cons_succ, List.set_cons_zero]
      refine wpAnyH_take (i := 27) (v := ?_) rfl (by kernel_rfl) (by kernel_rfl) (by kernel_rfl) (fun _ _ _ h => h) (Or.inl ⟨by rfl, ?_⟩) (by assumption) ?_
      rotate_left
      · (intro w' hSw; (try dsimp only at hSw); obtain ⟨s0, t0, t1, t2, t3, sk⟩ := hSw; go_simp; (try (with_reducible rfl)))
      simp only [Act.put, List.getElem_toArray, List.getElem_cons_succ, List.getElem_cons_zero, List.setIfInBounds_toArray, List.set_cons_succ, List.set_cons_zero]
      refine wpAnyH_take (i := 28) (v := ?_) rfl (by kernel_rfl) (by kernel_rfl) (by kernel_rfl) (fun _ _ _ h => h) (Or.inl ⟨by rfl, ?_⟩) (by assumption) ?_
      rotate_left
      · (intro w' hSw; (try dsimp only at hSw); obtain ⟨s0, t0, t1, t2, t3, sk⟩ := hSw; go_simp; (try (with_reducible rfl)))
      simp only [Act.put, List.getElem_toArray, List.getElem_cons_succ, List.getElem_cons_zero, List.setIfInBounds_toArray, List.set_cons_succ, List.set_cons_zero]
      refine wpAnyH_take (i := 29) (v := ?_) rfl (by kernel_rfl) (by kernel_rfl) (by kernel_rfl) (fun _ _ _ h => h) (Or.inl ⟨by rfl, ?_⟩) (by assumption) ?_
      rotate_left
      · (intro w' hSw; (try dsimp only at hSw); obtain ⟨s0, t0, t1, t2, t3, sk⟩ := hSw; go_simp; (try (with_reducible rfl)))
      simp only [Act.put, List.getElem_toArray, List.getElem_cons_succ, List.getElem_cons_zero, List.setIfInBounds_toArray, List.set_cons_succ, List.set_cons_zero]
      refine wpAnyH_take (i := 30) (v := ?_) rfl (by kernel_rfl) (by kernel_rfl) (by kernel_rfl) (fun _ _ _ h => h) (Or.inl ⟨by rfl, ?_⟩) (by assumption) ?_
      rotate_left
      · (intro w' hSw; (try dsimp only at hSw); obtain ⟨s0, t0, t1, t2, t3, sk⟩ := hSw; go_simp; (try (with_reducible rfl)))
      simp only [Act.put, List.getElem_toArray, List.getElem_cons_succ, List.getElem_cons_zero, List.setIfInBounds_toArray, List.set_cons_succ, List.set_cons_zero]
      refine wpAnyH_take (i := 31) (v := ?_) rfl (by kernel_rfl) (by kernel_rfl) (by kernel_rfl) (fun _ _ _ h => h) (Or.inl ⟨by rfl, ?_⟩) (by assumption) ?_
      rotate_left
      · (intro w' hSw; (try dsimp only at hSw); obtain ⟨s0, t0, t1, t2, t3, sk⟩ := hSw; go_simp; (try (with_reducible rfl)))
      simp only [Act.put, List.getElem_toArray, List.getElem_cons_succ, List.getElem_cons_zero, List.setIfInBounds_toArray, List.set_cons_succ, List.set_cons_zero]
      refine wpAnyH_take (i := 32) (v := ?_) rfl (by kernel_rfl) (by kernel_rfl) (by kernel_rfl) (fun _ _ _ h => h) (Or.inl ⟨by rfl, ?_⟩) (by assumption) ?_
      rotate_left
      · (intro w' hSw; (try dsimp only at hSw); obtain ⟨s0, t0, t1, t2, t3, sk⟩ := hSw; go_simp; (try (with_reducible rfl)))
      simp only [Act.put, List.getElem_toArray, List.getElem_cons_succ, List.getElem_cons_zero, List.setIfInBounds_toArray, List.set_cons_succ, List.set_cons_zero]
      refine wpAnyH_take (i := 33) (v := ?_) rfl (by kernel_rfl) (by kernel_rfl) (by kernel_rfl) (fun _ _ _ h => h) (Or.inl ⟨by rfl, ?_⟩) (by assumption) ?_
      rotate_left
      · (intro w' hSw; (try dsimp only at hSw); obtain ⟨s0, t0, t1, t2, t3, sk⟩ := hSw; go_simp; (try (with_reducible rfl)))
      simp only [Act.put, List.getElem_toArray, List.getElem_cons_succ, List.getElem_cons_zero, List.setIfInBounds_toArray, List.set_cons_succ, List.set_cons_zero]
      refine wpAnyH_take (i := 34) (v := ?_) rfl (by kernel_rfl) (by kernel_rfl) (by kernel_rfl) (fun _ _ _ h => h) (Or.inl ⟨by rfl, ?_⟩) (by assumption) ?_
      rotate_left
      · (intro w' hSw; (try dsimp only at hSw); obtain ⟨s0, t0, t1, t2, t3, sk⟩ := hSw; go_simp; (try (with_reducible rfl)))
      simp only [Act.put, List.getElem_toArray, List.getElem_cons_succ, List.getElem_cons_zero, List.setIfInBounds_toArray, List.set_cons_succ, List.set_cons_zero]
      refine wpAnyH_take (i := 36) (v := ?_) rfl (by kernel_rfl) (by kernel_rfl) (by kernel_rfl) (fun _ _ _ h => h) (Or.inl ⟨by rfl, ?_⟩) (by assumption) ?_
      rotate_left
      · (intro w' hSw; (try dsimp only at hSw); obtain ⟨s0, t0, t1, t2, t3, sk⟩ := hSw; go_simp; (try (with_reducible rfl)))
      simp only [Act.put, List.getElem_toArray, List.getElem_cons_succ, List.getElem_cons_zero, List.setIfInBounds_toArray, List.set_cons_succ, List.set_cons_zero]
      refine wpAnyH_take (i := 37) (v := ?_) rfl (by kernel_rfl) (by kernel_rfl) (by kernel_rfl) (fun _ _ _ h => h) (Or.inl ⟨by rfl, ?_⟩) (by assumption) ?_
      rotate_left
      · (intro w' hSw; (try dsimp only at hSw); obtain ⟨s0, t0, t1, t2, t3, sk⟩ := hSw; go_simp; (try (with_reducible rfl)))
      simp only [Act.put, List.getElem_toArray, List.getElem_cons_succ, List.getElem_cons_zero, List.setIfInBounds_toArray, List.set_cons_succ, List.set_cons_zero]
      refine wpAnyH_take (i := 38) (v := ?_) rfl (by kernel_rfl) (by kernel_rfl) (by kernel_rfl) (fun _ _ _ h => h) (Or.inl ⟨by rfl, ?_⟩) (by assumption) ?_
      rotate_left
      · (intro w' hSw; (try dsimp only at hSw); obtain ⟨s0, t0, t1, t2, t3, sk⟩ := hSw; go_simp; (try (with_reducible rfl)))
      simp only [Act.put, List.getElem_toArray, List.getElem_cons_succ, List.getElem_cons_zero, List.setIfInBounds_toArray, List.set_cons_succ, List.set_cons_zero]
      refine wpAnyH_take (i := 39) (v := ?_) rfl (by kernel_rfl) (by kernel_rfl) (by kernel_rfl) (fun _ _ _ h => h) (Or.inl ⟨by rfl, ?_⟩) (by assumption) ?_
      rotate_left
      · (intro w' hSw; (try dsimp only at hSw); obtain ⟨s0, t0, t1, t2, t3, sk⟩ := hSw; go_simp; (try (with_reducible rfl)))
      simp only [Act.put, List.getElem_toArray, List.getElem_cons_succ, List.getElem_cons_zero, List.setIfInBounds_toArray, List.set_cons_succ, List.set_cons_zero]
      refine wpAnyH_take (i := 40) (v := ?_) rfl (by kernel_rfl) (by kernel_rfl) (by kernel_rfl) (fun _ _ _ h => h) (Or.inl ⟨by rfl, ?_⟩) (by assumption) ?_
      rotate_left
      · (intro w' hSw; (try dsimp only at hSw); obtain ⟨s0, t0, t1, t2, t3, sk⟩ := hSw; go_simp; (try (with_reducible rfl)))
      simp only [Act.put, List.getElem_toArray, List.getElem_cons_succ, List.getElem_cons_zero, List.setIfInBounds_toArray, List.set_cons_succ, List.set_cons_zero]
      refine wpAnyH_take (i := 41) (v := ?_) rfl (by kernel_rfl) (by kernel_rfl) (by kernel_rfl) (fun _ _ _ h => h) (Or.inl ⟨by rfl, ?_⟩) (by assumption) ?_
      rotate_left
      · (intro w' hSw; (try dsimp only at hSw); obtain ⟨s0, t0, t1, t2, t3, sk⟩ := hSw; go_simp; (try (with_reducible rfl)))
      simp only [Act.put, List.getElem_toArray, List.getElem_cons_succ, List.getElem_cons_zero, List.setIfInBounds_toArray, List.set_cons_succ, List.set_cons_zero]
      refine wpAnyH_ready (rs := [35]) (by kernel_rfl) (by simp) ?_
      refine AllReadyH.cons rfl (fun K hK => ?_) AllReadyH.nil
      go_simp
      (go_at_call 37; refine (F37.out _ hHeld.2.2.2.2.2).mono ?_; rintro e v37 ⟨rfl, hb4⟩; (try go_simp))
      refine hK.out _ _ ?_ (fun hHeld => ?_)
      · (try dsimp only); exact ⟨(hb4.cell (cell_ltk hHeld.1) (fun h => h)).trans hHeld.1, (hb4.cell (cell_ltk hHeld.2.1) (fun h => h)).trans hHeld.2.1, (hb4.cell (cell_ltk hHeld.2.1) (fun h => h)).trans hHeld.2.2.1, (hb4.cell (cell_ltk hHeld.2.1) (fun h => h)).trans hHeld.2.2.2.1, (hb4.cell (cell_ltk hHeld.2.1) (fun h => h)).trans hHeld.2.2.2.2.1, hHeld.2.2.2.2.2.trans hb4 (fun _ _ h => h)⟩
      clear hK K
      refine wpAnyH_ready (rs := [42]) (by kernel_rfl) (by simp) ?_
      refine AllReadyH.cons rfl (fun K hK => ?_) AllReadyH.nil
      go_simp
      (go_at_call 38; refine (F38.out _ hHeld.2.2.2.2.2).mono ?_; rintro e v38 ⟨rfl, hb4⟩; (try go_simp))
      refine hK.out _ _ ?_ (fun hHeld => ?_)
      · (try dsimp only); exact ⟨(hb4.cell (cell_ltk hHeld.1) (fun h => h)).trans hHeld.1, (hb4.cell (cell_ltk hHeld.2.1) (fun h => h)).trans hHeld.2.1, (hb4.cell (cell_ltk hHeld.2.1) (fun h => h)).trans hHeld.2.2.1, (hb4.cell (cell_ltk hHeld.2.1) (fun h => h)).trans hHeld.2.2.2.1, (hb4.cell (cell_ltk hHeld.2.1) (fun h => h)).trans hHeld.2.2.2.2.1, hHeld.2.2.2.2.2.trans hb4 (fun _ _ h => h)⟩
      clear hK K
      refine wpAnyH_take (i := 43) (v := ?_) rfl (by kernel_rfl) (by kernel_rfl) (by kernel_rfl) (fun _ _ _ h => h) (Or.inl ⟨by rfl, ?_⟩) (by assumption) ?_
      rotate_left
      · (intro w' hSw; (try dsimp only at hSw); obtain ⟨s0, t0, t1, t2, t3, sk⟩ := hSw; go_simp; (try (with_reducible rfl)))
      simp only [Act.put, List.getElem_toArray, List.getElem_cons_succ, List.getElem_cons_zero, List.setIfInBounds_toArray, List.set_cons_succ, List.set_cons_zero]
      refine wpAnyH_take (i := 44) (v := ?_) rfl (by kernel_rfl) (by kernel_rfl) (by kernel_rfl) (fun _ _ _ h => h) (Or.inl ⟨by rfl, ?_⟩) (by assumption) ?_
      rotate_left
      · (intro w' hSw; (try dsimp only at hSw); obtain ⟨s0, t0, t1, t2, t3, sk⟩ := hSw; go_simp; (try (with_reducible rfl)))
      simp only [Act.put, List.getElem_toArray, List.getElem_cons_succ, List.getElem_cons_zero, List.setIfInBounds_toArray, List.set_cons_succ, List.set_cons_zero]
      refine wpAnyH_done (by kernel_rfl) ?_ _
      have KF := Lib.hid (KR.out.trans hHeld.2.2.2.2.2 (fun _ _ h => h))
      clear hHeld
      go_wp2
      go_roundw
      case rel => exact ⟨k + 1, by omega, by go_num, KF.out⟩
      case measure => simp [intOf]; omega
    · obtain rfl : k = q := by omega
      have h1d : decide ((k : Int) < (k : Int)) = false := decide_eq_false (by omega)
      have kw := K2.out.trans KR3.out (fun _ _ h => h)
      have KW := Lib.hid kw
      have k5 := KK9.out.trans KR.out (fun _ _ h => h)
      have cv1 := conv_any wr w4.heap.size A4 c4 P1 (RdB_up R45.out k5)
      have cv2 := conv_any wr w5.heap.size A5 c5 P1 (RdB_up R5.out k5)
      rw [← HPL.out] at cv1 cv2
      obtain ⟨S, hS⟩ : ∃ S, S = strOfNums P1 := ⟨_, rfl⟩
      rw [← hS] at cv1 cv2
      clear hS kw k5
      go_wp2
      go_ret
      exact ⟨rfl, KW.out⟩
end Go.Proofs.YtoombjbpblighaaDoor
