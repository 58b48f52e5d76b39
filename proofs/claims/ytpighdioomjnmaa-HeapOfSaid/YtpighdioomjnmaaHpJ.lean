/-
  Layer 10: the walk of HeapOf. Written by an AI agent.
-/
import Derived.Test.YtpighdioomjnmaaHpV
import Derived.Test.YtpighdioomjnmaaHpP
import Derived.Deep.DeepCutAuto
import Derived.Deep.CutBlock
import Derived.Deep.CutRange
import Derived.Deep.RegionHeld3
namespace Go.Proofs.Ytpighdioomjnmaa
open Go.RowKit
set_option linter.unusedVariables false

/-- Lists whose numbers may be written. -/
def WrtL (w : World) (S : Nat → Prop) (A : Option Addr) (N : Nat) (f : Nat → Nat) : Prop :=
  ∀ i, i < N → ∃ g A2 c2, A = some ⟨g, 0, none⟩ ∧ w.cell? ⟨g, i, none⟩ = some (.slice A2 (f i) c2) ∧
    ∀ j, j < f i → ∃ g2, A2 = some ⟨g2, 0, none⟩ ∧ g2 ≠ g ∧ S g2 ∧ (∃ z : Int, w.cell? ⟨g2, j, none⟩ = some (.int .i64 z)) ∧ w.frozen? ⟨g2, j, none⟩ = false

theorem LsIs.wrt {w : World} {S : Nat → Prop} {A : Option Addr} {c : Nat} {L : List (List Int)} (h : LsIs w S (.slice A L.length c) L) : WrtL w S A L.length (fun i => (L.getD i []).length) := fun i hi => by
  obtain ⟨rows, h1, _, h3⟩ := h
  obtain ⟨q1, q2⟩ := h3 i hi
  have hrl : rows.length = L.length := by have := h1.1; omega
  rcases h1.2 with ⟨_, h0⟩ | ⟨g, cap, cur, hv, _⟩
  · omega
  · simp only [Value.slice.injEq] at hv
    obtain ⟨rfl, _, rfl⟩ := hv
    have hcell : w.cell? ⟨g, i, none⟩ = some (rows.getD i (.slice none 0 0)) := by
      rw [h1.cellAt i (by omega), List.getD_eq_getElem?_getD, List.getElem?_eq_getElem (by omega)]
      rfl
    rcases q1.2 with ⟨e, h0⟩ | ⟨g2, c2, cur2, e, _⟩
    · rw [e] at hcell
      exact ⟨g, none, 0, rfl, by rw [hcell]; show _ = some (Value.slice none (L.getD i []).length 0); rw [h0], fun j hj => by have hj' : j < (L.getD i []).length := hj; omega⟩
    · have hne := own_ne h1 q1 rfl (g' := g2) (by rw [e]; rfl)
      have hS := q2 g2 (by rw [e]; rfl)
      rw [e] at hcell q1
      refine ⟨g, some ⟨g2, 0, none⟩, c2, rfl, hcell, fun j hj => ⟨g2, rfl, hne, hS, ⟨(L.getD i []).getD j 0, ?_⟩, q1.frozenAt j⟩⟩
      have hj' : j < (L.getD i []).length := hj
      rw [q1.cellAt j (by omega), iv_at hj']

theorem WrtL.keep {w w' : World} {S T : Nat → Prop} {A : Option Addr} {N : Nat} {f : Nat → Nat} (h : WrtL w S A N f) (hk : Keeps T w w') (hT : ∀ k, k < w.heap.size → ¬ T k) : WrtL w' S A N f := fun i hi => by
  obtain ⟨g, A2, c2, e1, e2, e3⟩ := h i hi
  have hg := cell_lt e2
  refine ⟨g, A2, c2, e1, (hk.cell hg (hT g hg)).trans e2, fun j hj => ?_⟩
  obtain ⟨g2, d1, d2, d3, ⟨z, d4⟩, d5⟩ := e3 j hj
  have hg2 := cell_lt d4
  exact ⟨g2, d1, d2, d3, ⟨z, (hk.cell hg2 (hT g2 hg2)).trans d4⟩, (hk.frozen hg2 (hT g2 hg2)).trans d5⟩

theorem WrtL.put {w : World} {S : Nat → Prop} {g : Nat} {N : Nat} {f : Nat → Nat} (h : WrtL w S (some ⟨g, 0, none⟩) N f) {g2 j : Nat} {z : Int} (hne : g2 ≠ g) (hc : w.cell? ⟨g2, j, none⟩ = some (.int .i64 z)) (n : Int) : WrtL (w.setCell ⟨g2, j, none⟩ (.int .i64 n)) S (some ⟨g, 0, none⟩) N f := fun i hi => by
  obtain ⟨g', A2, c2, e1, e2, e3⟩ := h i hi
  obtain rfl : g = g' := by simpa using e1
  refine ⟨g, A2, c2, rfl, (World.cell?_setCell_far w ⟨g2, j, none⟩ ⟨g, i, none⟩ _ hne).trans e2, fun j' hj' => ?_⟩
  obtain ⟨g3, d1, d2, d3, ⟨y, d4⟩, d5⟩ := e3 j' hj'
  refine ⟨g3, d1, d2, d3, ?_, by rw [World.frozen?_setCell]; exact d5⟩
  by_cases e : (⟨g2, j, none⟩ : Addr) = ⟨g3, j', none⟩
  · rw [← e]
    exact ⟨n, World.cell?_setCell_same' w _ _ (by rw [hc]; rfl)⟩
  · exact ⟨y, (World.cell?_setCell_other w _ _ _ e).trans d4⟩

set_option maxRecDepth 100000 in
set_option maxHeartbeats 8000000 in
theorem of_walk (A : Option Addr) (len cap : Nat) (L : List (List Int)) (i0 i1 n : Int) (w : World) (hlen : L.length = len) (hlb : len ≤ 9223372036854775807) (hlr : ∀ i, (L.getD i []).length ≤ 9223372036854775807) (hA : ArgL w A L) :
    Calls Try.prog 4 #[.slice A len cap, .agg #[.int .i64 i0, .int .i64 i1], .int .i64 n] w fun e w' => e = .returned (.bool true) ∧ Below w.heap.size w w' := by
  obtain ⟨j0, hj, hy0, hy1, hy2⟩ := info_parts info41
  have HLen := Lib.hid hlen
  have HLr := Lib.hid hlr
  have HA := Lib.hid hA
  clear hlen hlr hA
  go_enter Try.func4, Try.ntmps4
  go_wp2_with fail
  refine (shown_any _).mono ?_
  rintro e w1 ⟨rfl, hb1⟩
  obtain ⟨ob, hob⟩ : ∃ ob : Nat, ob = w.heap.size := ⟨_, rfl⟩
  have hq0 : w1.cell? ⟨ob, 0, none⟩ = some (.int .i64 i0) := by rw [hob]; exact (hb1.cell (p := ⟨w.heap.size, 0, none⟩) (by simp)).trans (by simp)
  have hq1 : w1.cell? ⟨ob, 1, none⟩ = some (.int .i64 i1) := by rw [hob]; exact (hb1.cell (p := ⟨w.heap.size, 1, none⟩) (by simp)).trans (by simp)
  have hobl : ob < w1.heap.size := by have := hb1.size; simp at this; omega
  have hB1 : Below w.heap.size w w1 := ((Below.refl _ w).alloc (Nat.le_refl _) _).trans (hb1.mono (by simp))
  have hobw : w.heap.size ≤ ob := by omega
  rw [← hob]
  have Q0 := Lib.hid hq0
  have Q1 := Lib.hid hq1
  have HB1 := Lib.hid hB1
  clear hb1 hob hq0 hq1 hB1
  obtain ⟨Z, hZ⟩ : ∃ Z : Nat, Z = w1.heap.size := ⟨_, rfl⟩
  have hEmp : OwnL w (w1.alloc (.cells #[] 41)) Z (.slice (some ⟨Z, 0, none⟩) 0 0) [] := by
    refine ⟨[], ?_, fun j hj => ?_, fun i hi => absurd hi (Nat.not_lt_zero _)⟩
    · rw [hZ]
      exact World.ownsRow_lit (base := 0) (e := 41) (size := 1) w1 #[] 0 (Nat.zero_le _) (by unfold maxLen; omega) rfl
    · have : Z = j := by simpa [Value.ownBlock] using hj
      omega
  have hE1 : Below Z w1 (w1.alloc (.cells #[] 41)) := by rw [hZ]; exact (Below.refl _ _).alloc (Nat.le_refl _) _
  have HEmp := Lib.hid hEmp
  have HE1 := Lib.hid hE1
  have HZ := Lib.hid hZ
  have hwZ : w.heap.size ≤ Z := by rw [hZ]; exact HB1.out.size
  have hobZ : ob < Z := by rw [hZ]; exact hobl
  clear hEmp hE1 hZ hobl
  go_upto_block 0 with fail
  rw [← HZ.out]
  go_cut [8] (fun s8 wx => ∃ (A8 : Option Addr) (c8 : Nat) (O : List (List Int)), s8 = .slice A8 O.length c8 ∧ O.length ≤ 20 ∧ (∀ i, (O.getD i []).length ≤ 20) ∧ OwnL w wx Z (.slice A8 O.length c8) O ∧ Below Z w1 wx)
  case first =>
    go_wp2_with fail
    go_loopw [8, 9] (fun v i wr => ∃ (k : Nat) (O : List (List Int)), k ≤ 20 ∧ k ≤ len ∧ i = .int .i64 k ∧ O.length = k ∧ (∀ i, (O.getD i []).length ≤ 20) ∧ OwnL w wr Z v O ∧ Below Z w1 wr) (fun _ i _ => 20 - (intOf i).toNat)
    case atStart => exact ⟨0, [], by omega, by omega, rfl, rfl, by simp, HEmp.out, HE1.out⟩
    case round =>
      obtain ⟨k, O, hk, hkl, rfl, hOk, hO20, hown, hbz⟩ := hrel
      by_cases hlt : k < len
      · by_cases h20 : k < 20
        · have hlt' : (k : Int) < (len : Int) := by omega
          have h20' : (k : Int) < 20 := by omega
          have hk0 : (0 : Int) ≤ (k : Int) := by omega
          obtain ⟨b, off, rfl, ha⟩ := HA.out (by rw [HLen.out]; omega)
          obtain ⟨Ai, ci, hc, hmc, hcm, hAn, hrd⟩ := ha k (by rw [HLen.out]; exact hlt)
          have hbl := cell_lt hc
          have hwZ2 : w1.heap.size = Z := HZ.out.symm
          have hcr : wr.cell? ⟨b, off + k, none⟩ = some (.slice Ai (L.getD k []).length ci) := (hbz.cell (p := ⟨b, off + k, none⟩) (show b < Z by omega)).trans ((HB1.out.cell (p := ⟨b, off + k, none⟩) hbl).trans hc)
          obtain ⟨m, hm⟩ : ∃ m : Nat, m = (L.getD k []).length := ⟨_, rfl⟩
          have hmb : m ≤ 9223372036854775807 := by rw [hm]; exact HLr.out k
          rw [← hm] at hcr hmc
          obtain ⟨rows, o1, o2, o3⟩ := hown
          have hbs := hbz.size
          have HM := Lib.hid hm
          have HR := Lib.hid hrd
          have HAn := Lib.hid hAn
          rw [hOk] at o1
          have O1 := Lib.hid o1
          have O2 := Lib.hid o2
          have O3 := Lib.hid o3
          have HBz := Lib.hid hbz
          have HO := Lib.hid hOk
          have HO20 := Lib.hid hO20
          have HW := Lib.hid hwZ2
          clear ha hc hm hrd hAn o1 o2 o3 hbz hOk hO20 hwZ2 hbs hcm
          by_cases m20 : 20 < m
          · have m20' : (20 : Int) < (m : Int) := by omega
            have c20 : (20 : Int) ≤ (ci : Int) := by omega
            obtain ⟨bi, oi, hAi, _⟩ := HR.out (by rw [iv_length, ← HM.out]; omega)
            subst hAi
            have hn20 : ¬ ci = 0 := by omega
            go_wp2_with (at_builtin; refine wpList_append_at rfl (.tmp 43) (.tmp 45) 27 rfl 0 41 j0 _ 24 Try.underlying27 hj hy0 hy1 hy2 (by rfl) _ k rows (by rfl) (O1.out.alloc _) _ 1 1 [_] (by rfl) (by simp) (by rfl) (rdv_new _ _ _) (by simp [Value.oneCell']) (by omega) (by omega) (by omega) ?_
                         intro v5 w5 hown5 hg5 hb5
                         have H5 := Lib.hid hown5
                         have G5 := Lib.hid hg5
                         have B5 := Lib.hid hb5
                         clear hown5 hg5 hb5)
            go_roundw
            case rel =>
              have hxm : ((L.getD k []).take 20).length = 20 := by rw [List.length_take, ← HM.out]; omega
              have hs := HBz.out.size
              refine ⟨k + 1, O ++ [(L.getD k []).take 20], by omega, by omega, by go_num, by rw [List.length_append, HO.out]; rfl, snoc_le HO20.out (by rw [hxm]; omega), ?_, ?_⟩
              · exact OwnL.snoc HO.out O1.out O2.out O3.out (by have := HW.out; omega) (rdv_take HR.out 20) hxm H5.out B5.out
              · have hw := HW.out
                exact (HBz.out.alloc (by omega) _).grown G5.out (by simp; omega) (fun j hj => O2.out j hj)
            case measure => simp [intOf]; omega
          · have m20' : ¬ (20 : Int) < (m : Int) := by omega
            go_wp2_with (at_builtin; refine wpList_append_at rfl (.tmp 43) (.tmp 45) 27 rfl 0 41 j0 _ 24 Try.underlying27 hj hy0 hy1 hy2 (by rfl) _ k rows (by rfl) (O1.out.alloc _) _ 1 1 [_] (by rfl) (by simp) (by rfl) (rdv_new _ _ _) (by simp [Value.oneCell']) (by omega) (by omega) (by omega) ?_
                         intro v5 w5 hown5 hg5 hb5
                         have H5 := Lib.hid hown5
                         have G5 := Lib.hid hg5
                         have B5 := Lib.hid hb5
                         clear hown5 hg5 hb5)
            go_roundw
            case rel =>
              have hxm : (L.getD k []).length = m := by exact HM.out.symm
              have hs := HBz.out.size
              refine ⟨k + 1, O ++ [L.getD k []], by omega, by omega, by go_num, by rw [List.length_append, HO.out]; rfl, snoc_le HO20.out (by rw [hxm]; omega), ?_, ?_⟩
              · exact OwnL.snoc HO.out O1.out O2.out O3.out (by have := HW.out; omega) HR.out hxm H5.out B5.out
              · have hw := HW.out
                exact (HBz.out.alloc (by omega) _).grown G5.out (by simp; omega) (fun j hj => O2.out j hj)
            case measure => simp [intOf]; omega
        · have h20' : ¬ (k : Int) < 20 := by omega
          have hlt' : (k : Int) < (len : Int) := by omega
          have hd : decide ((k : Int) < 20) = false := decide_eq_false h20'
          obtain ⟨A8, c8, rfl⟩ := hown.form
          have HO := Lib.hid hOk
          have HO20 := Lib.hid hO20
          have HOw := Lib.hid hown
          have HBz := Lib.hid hbz
          clear hOk hO20 hown hbz
          go_wp2_with fail
          go_meet
          exact ⟨A8, c8, O, rfl, by rw [HO.out]; omega, HO20.out, HOw.out, HBz.out⟩
      · have hlt' : ¬ (k : Int) < (len : Int) := by omega
        have hd : decide ((k : Int) < (len : Int)) = false := decide_eq_false hlt'
        obtain ⟨A8, c8, rfl⟩ := hown.form
        have HO := Lib.hid hOk
        have HO20 := Lib.hid hO20
        have HOw := Lib.hid hown
        have HBz := Lib.hid hbz
        clear hOk hO20 hown hbz
        go_wp2_with fail
        go_meet
        exact ⟨A8, c8, O, rfl, by rw [HO.out]; omega, HO20.out, HOw.out, HBz.out⟩
  case rest =>
    obtain ⟨A8, c8, O, rfl, hO, hO20, hown, hbz⟩ := hcut
    obtain ⟨wA, rfl⟩ : ∃ wA : World, wA = wc := ⟨_, rfl⟩
    have hbl : Below w.heap.size w wA := HB1.out.trans (hbz.mono (by omega))
    have hrd : RdL wA A8 O := hown.rd hbl
    have q0 : wA.cell? ⟨ob, 0, none⟩ = some (.int .i64 i0) := (hbz.cell (p := ⟨ob, 0, none⟩) hobZ).trans Q0.out
    have q1 : wA.cell? ⟨ob, 1, none⟩ = some (.int .i64 i1) := (hbz.cell (p := ⟨ob, 1, none⟩) hobZ).trans Q1.out
    have hobA : ob < wA.heap.size := cell_lt q0
    have OF := Lib.hid (of_any wA A8 c8 O (by omega) (fun i => Nat.le_trans (hO20 i) (by omega)) hrd)
    have RF : Hid (∀ w2, Keeps (fun _ => False) wA w2 → Calls Try.prog 22 #[.slice A8 O.length c8] w2 (ROfPost O w2)) := fun w2 hk => rof_any w2 A8 c8 O (by omega) (fun i => Nat.le_trans (hO20 i) (by omega)) (rdl_keep hrd hk)
    have HR := Lib.hid hrd
    have HB := Lib.hid hbl
    have HQ := Lib.hid (And.intro q0 q1)
    clear hO hO20 hown hbz hbl hrd q0 q1
    obtain ⟨N, hN⟩ : ∃ N : Nat, N = O.length := ⟨_, rfl⟩
    rw [← hN] at OF RF ⊢
    have HN := Lib.hid hN
    clear hN
    go_wp2_with fail
    refine OF.out.mono ?_
    rintro e w2 ⟨k2, hcase⟩
    have sA2 := k2.size
    rcases hcase with ⟨hok, p, rfl, h2⟩ | ⟨hnok, rfl⟩
    · have hb40 := okl_bound hok
      have hgl : ∀ i, (O.getD i []).length ≤ 1000000 := fun i => Nat.le_trans (getD_le_flat O i) (by omega)
      have RF2 := Lib.hid (RF.out w2 k2)
      have K2 := Lib.hid k2
      have H2 := Lib.hid h2
      have H40 := Lib.hid hb40
      have HGl := Lib.hid hgl
      have HOk := Lib.hid hok
      clear k2 h2 hb40 hgl hok RF OF
      go_wp2_with fail
      refine RF2.out.mono ?_
      rintro e w3 ⟨k3, hcase3⟩
      rcases hcase3 with ⟨_, p', rfl, y3⟩ | ⟨hno, _⟩
      · have s3 := k3.size
        have H3 := Lib.hid (H2.out.keep k3 (fun _ _ _ h => h))
        have Y3 := Lib.hid y3
        have K3 : Hid (Keeps (fun _ => False) wA w3) := K2.out.trans k3 (fun _ _ h => h)
        clear k3 y3
        go_wp2_with fail
        refine (lists_ok w3 _ p O H3.out (by have := H40.out; omega) (by have := H40.out; omega)).mono ?_
        rintro e w4 ⟨v4, c4, A4, rfl, rfl, h4, k4⟩
        rw [← HN.out]
        have K4 : Hid (Keeps (fun _ => False) wA w4) := K3.out.trans k4 (fun _ _ h => h.elim)
        have SC := same_same w4 A4 A8 c4 c8 O (by have := H40.out; omega) HGl.out h4.rd (rdl_keep HR.out K4.out)
        rw [← HN.out] at SC
        have SCh := Lib.hid SC
        have hwrt := h4.wrt
        rw [← HN.out] at hwrt
        have HWr := Lib.hid hwrt
        have H4 := Lib.hid (H3.out.keep k4 (fun _ _ _ h => h))
        have Y4 := Lib.hid (Y3.out.keep k4 (fun _ _ _ h => h))
        have s4 := k4.size
        clear h4 k4 SC hwrt
        go_wp2_with fail
        refine SCh.out.mono ?_
        rintro e w5 ⟨rfl, q5, hq5⟩
        have k5 : Keeps (fun _ => False) w4 w5 := by rw [hq5]; exact keeps_drewN _ w4 q5
        have H5 := Lib.hid (H4.out.keep k5 (fun _ _ _ h => h))
        have Y5 := Lib.hid (Y4.out.keep k5 (fun _ _ _ h => h))
        have K5 : Hid (Keeps (fun _ => False) wA w5) := K4.out.trans k5 (fun _ _ h => h.elim)
        have HWr5 := Lib.hid (HWr.out.keep k5 (fun _ _ h => h))
        have s5 := k5.size
        have hN40 : N ≤ 40 := by have := HN.out; have := H40.out; omega
        have hf40 : ∀ i, (fun i => (O.getD i []).length) i ≤ 40 := fun i => Nat.le_trans (getD_le_flat O i) (by have := H40.out; omega)
        obtain ⟨f, hf⟩ : ∃ f : Nat → Nat, f = fun i => (O.getD i []).length := ⟨_, rfl⟩
        rw [← hf] at HWr5 hf40
        have HF40 := Lib.hid hf40
        clear hq5 k5 hf40 hf HWr
        go_wp2_with fail
        go_loopw [17] (fun i wr => ∃ k : Nat, k ≤ N ∧ i = .int .i64 k ∧ WrtL wr (fun k => w3.heap.size ≤ k) A4 N f ∧ Keeps (fun k => w3.heap.size ≤ k) w5 wr) (fun i _ => N - (intOf i).toNat)
        case atStart => exact ⟨0, Nat.zero_le _, rfl, HWr5.out, Keeps.refl _ _⟩
        case round =>
          obtain ⟨k, hk, rfl, hwr, hkr⟩ := hrel
          by_cases hkn : k < N
          · have hkn' : (k : Int) < (N : Int) := by omega
            have hk0 : (0 : Int) ≤ (k : Int) := by omega
            obtain ⟨m, hm⟩ : ∃ m : Nat, m = f k := ⟨_, rfl⟩
            have hm40 : m ≤ 40 := by rw [hm]; exact HF40.out k
            have HM := Lib.hid hm
            have HWR := Lib.hid hwr
            have HKR := Lib.hid hkr
            clear hm hwr hkr
            go_wp2_with fail
            go_loopw [18] (fun j wi => ∃ q : Nat, q ≤ m ∧ j = .int .i64 q ∧ WrtL wi (fun k => w3.heap.size ≤ k) A4 N f ∧ Keeps (fun k => w3.heap.size ≤ k) w5 wi) (fun j _ => m - (intOf j).toNat)
            case atStart => exact ⟨0, Nat.zero_le _, rfl, HWR.out, HKR.out⟩
            case round =>
              obtain ⟨q, hq, rfl, hwr, hkr⟩ := hrel
              obtain ⟨wI, rfl⟩ : ∃ wI : World, wI = wr := ⟨_, rfl⟩
              obtain ⟨g, A2, c2, rfl, hc, hj⟩ := hwr k hkn
              rw [← HM.out] at hc hj
              by_cases hqm : q < m
              · have hqm' : (q : Int) < (m : Int) := by omega
                have hq0 : (0 : Int) ≤ (q : Int) := by omega
                obtain ⟨g2, rfl, hne, hS, ⟨z, hcz⟩, hfz⟩ := hj q hqm
                obtain ⟨wJ, hwJ⟩ : ∃ wJ : World, wJ = wI.setCell ⟨g2, q, none⟩ (.int .i64 77) := ⟨_, rfl⟩
                have h1 := hwr.put hne hcz 77
                have h2 : Keeps (fun k => w3.heap.size ≤ k) w5 (wI.setCell ⟨g2, q, none⟩ (.int .i64 77)) := hkr.setCell (fun _ => hS) _
                rw [← hwJ] at h1 h2
                have HWJ := Lib.hid hwJ
                have H1 := Lib.hid h1
                have HK2 := Lib.hid h2
                clear hj hwr hkr h1 h2 hwJ hS hne
                go_wp2
                try rw [← HWJ.out]
                go_roundw
                case rel => exact ⟨q + 1, by omega, by go_num, H1.out, HK2.out⟩
                case measure => simp [intOf]; omega
              · obtain rfl : q = m := by omega
                have hd : decide (q < q) = false := by simp
                have HWR2 := Lib.hid hwr
                have HKR2 := Lib.hid hkr
                clear hj hwr hkr
                go_wp2
                go_roundw
                case rel => exact ⟨k + 1, by omega, by go_num, HWR2.out, HKR2.out⟩
                case measure => simp [intOf]; omega
          · obtain rfl : k = N := by omega
            have hd : decide (k < k) = false := by simp
            obtain ⟨wE, rfl⟩ : ∃ wE : World, wE = wr := ⟨_, rfl⟩
            have sE := hkr.size
            have hHE := H5.out.keep hkr (fun k hk hS hT => by have h1 := hS.2; have h2 : w3.heap.size ≤ k := hT; omega)
            have hYE := Y5.out.keep hkr (fun k hk hS hT => by have h1 := hS.2; have h2 : w3.heap.size ≤ k := hT; omega)
            have kE : Keeps (fun k => w3.heap.size ≤ k) wA wE := (K5.out.mono (T := fun k => w3.heap.size ≤ k) (fun _ _ h => h.elim)).trans hkr (fun _ _ h => h)
            have e0 : wE.cell? ⟨ob, 0, none⟩ = some (.int .i64 i0) := (kE.cell hobA (by show ¬ w3.heap.size ≤ ob; omega)).trans HQ.out.1
            have e1 : wE.cell? ⟨ob, 1, none⟩ = some (.int .i64 i1) := (kE.cell hobA (by show ¬ w3.heap.size ≤ ob; omega)).trans HQ.out.2
            have hobE : ob < wE.heap.size := cell_lt e0
            have HE := Lib.hid hHE
            have YE := Lib.hid hYE
            have KE : Hid (Below w.heap.size w wE) := HB.out.trans (kE.toBelow HB.out.size (fun b hb => by have : w3.heap.size ≤ b := hb; have := HB.out.size; omega))
            clear hwr hkr hHE hYE kE H5 Y5 HWr5 HF40 H4 Y4 H3 Y3 H2 RF2
            go_wp2_with fail
            refine (put_any wE _ p O HE.out (by have := H40.out; omega) (by have := H40.out; omega) i0 i1 n).mono ?_
            rintro e w6 ⟨t6, L6, rfl, h6, k6, hP6⟩
            have hl6 := put_len hP6
            have s6 := k6.size
            have f0 : w6.cell? ⟨ob, 0, none⟩ = some (.int .i64 i0) := (k6.cell hobE (fun h => by have := h.1; omega)).trans e0
            have f1 : w6.cell? ⟨ob, 1, none⟩ = some (.int .i64 i1) := (k6.cell hobE (fun h => by have := h.1; omega)).trans e1
            have Y6 := Lib.hid (YE.out.keep k6 (fun k hk hS hT => by have h1 := hS.1; have h2 := hT.2; omega))
            have H6 := Lib.hid h6
            have HP6 := Lib.hid hP6
            have HL6 : Hid (L6.length + L6.flatten.length ≤ 40) := by rw [hl6.1, hl6.2.1]; exact H40.out
            have K6 : Hid (Below w.heap.size w w6) := KE.out.trans (k6.toBelow KE.out.size (fun b hb => by have := hb.1; have := HB.out.size; omega))
            clear h6 k6 hP6 hl6 e0 e1
            go_wp2_with fail
            refine (rput_any w6 _ p' O Y6.out (by have := H40.out; omega) i0 i1 n).mono ?_
            rintro e wD ⟨t7, L7, rfl, y7, k7, hP7⟩
            obtain ⟨rfl, rfl⟩ := put_same HP6.out hP7
            have s7 := k7.size
            have h7 := H6.out.keep k7 (fun k hk hS hT => by have h1 := hS.2; have h2 := hT.1; omega)
            have hbw : Below w.heap.size w wD := K6.out.trans (k7.toBelow K6.out.size (fun b hb => by have := hb.1; have := HB.out.size; omega))
            obtain ⟨vy, rows, hcy, _, _, _, hRow⟩ := y7
            obtain ⟨Ay, cy, rfl⟩ := hRow.form
            have hrdy := hRow.ls.rd
            obtain ⟨M, hM⟩ : ∃ M : Nat, M = L7.length := ⟨_, rfl⟩
            rw [← hM] at hcy
            have LC : Hid (∀ w', Keeps (fun _ => False) wD w' → Calls Try.prog 20 #[.pointer (some ⟨p, 0, none⟩)] w' (GotLists L7 w')) := fun w' hk => lists_ok w' _ p L7 (h7.keep hk (fun _ _ _ h => h)) (by have := HL6.out; omega) (by have := HL6.out; omega)
            have SC2 : Hid (∀ w' (A6 : Option Addr) (c6 : Nat), Keeps (fun _ => False) wD w' → RdL w' A6 L7 → Calls Try.prog 19 #[.slice A6 M c6, .slice Ay M cy] w' fun e w'' => e = .returned (.bool true) ∧ ∃ k, w'' = w'.drewN k) := fun w' A6 c6 hk hr => by
              rw [hM]
              exact same_same w' A6 Ay c6 cy L7 (by have := HL6.out; omega) (fun i => Nat.le_trans (getD_le_flat L7 i) (by have := HL6.out; omega)) hr (rdl_keep hrdy hk)
            have HM := Lib.hid hM
            have HBw' := Lib.hid hbw
            clear h7 k7 hP7 hRow hrdy hM hbw f0 f1
            go_wp2_with fail
            refine wp_region_held_drew (S := fun w' => w'.cell? ⟨p', 0, none⟩ = some (.slice Ay M cy) ∧ Keeps (fun _ => False) wD w') (by kernel_rfl) (⟨hcy, (Keeps.refl _ _).drew⟩) (fun hHeld => ?_)
            refine wpAnyH_take (i := 0) (v := ?_) rfl (by kernel_rfl) (by kernel_rfl) (by kernel_rfl) (fun _ _ _ h => h) (Or.inl ⟨by rfl, ?_⟩) (by assumption) ?_
            rotate_left
            · (intro w' hSw; (try dsimp only at hSw); go_simp; (try (with_reducible rfl)))
            simp only [Act.put, List.getElem_toArray, List.getElem_cons_zero, List.setIfInBounds_toArray, List.set_cons_succ, List.set_cons_zero]
            refine wpAnyH_take (i := 2) (v := ?_) rfl (by kernel_rfl) (by kernel_rfl) (by kernel_rfl) (fun _ _ _ h => h) (Or.inl ⟨by rfl, ?_⟩) (by assumption) ?_
            rotate_left
            · (intro w' hSw; (try dsimp only at hSw); go_simp; (try (with_reducible rfl)))
            simp only [Act.put, List.getElem_toArray, List.getElem_cons_succ, List.getElem_cons_zero, List.setIfInBounds_toArray, List.set_cons_succ, List.set_cons_zero]
            refine wpAnyH_take (i := 3) (v := ?_) rfl (by kernel_rfl) (by kernel_rfl) (by kernel_rfl) (fun _ _ _ h => h) (Or.inl ⟨by rfl, ?_⟩) (by assumption) ?_
            rotate_left
            · (intro w' hSw; (try dsimp only at hSw); go_simp; (try (with_reducible rfl)))
            simp only [Act.put, List.getElem_toArray, List.getElem_cons_succ, List.getElem_cons_zero, List.setIfInBounds_toArray, List.set_cons_succ, List.set_cons_zero]
            refine wpAnyH_take (i := 4) (v := ?_) rfl (by kernel_rfl) (by kernel_rfl) (by kernel_rfl) (fun _ _ _ h => h) (Or.inl ⟨by rfl, ?_⟩) (by assumption) ?_
            rotate_left
            · (intro w' hSw; (try dsimp only at hSw); go_simp; (try (with_reducible rfl)))
            simp only [Act.put, List.getElem_toArray, List.getElem_cons_succ, List.getElem_cons_zero, List.setIfInBounds_toArray, List.set_cons_succ, List.set_cons_zero]
            refine wpAnyH_take (i := 5) (v := ?_) rfl (by kernel_rfl) (by kernel_rfl) (by kernel_rfl) (fun _ _ _ h => h) (Or.inl ⟨by rfl, ?_⟩) (by assumption) ?_
            rotate_left
            · (intro w' hSw; (try dsimp only at hSw); go_simp; (try (with_reducible rfl)))
            simp only [Act.put, List.getElem_toArray, List.getElem_cons_succ, List.getElem_cons_zero, List.setIfInBounds_toArray, List.set_cons_succ, List.set_cons_zero]
            refine wpAnyH_ready (rs := [1]) (by kernel_rfl) (by simp) ?_
            refine AllReadyH.cons rfl (fun K hK => ?_) AllReadyH.nil
            go_simp
            (go_at_call 20; refine (LC.out _ hHeld.2).mono ?_; rintro e w8 ⟨v8, c8', A8', rfl, rfl, h8, k8⟩; have hb4 := k8; have H8 := Lib.hid h8; clear h8 k8; (try rw [← HM.out]); (try go_simp))
            refine hK.out _ _ ?_ (fun hHeld => ?_)
            · (try dsimp only); exact ⟨(hb4.cell (cell_lt hHeld.1) (fun h => h)).trans hHeld.1, hHeld.2.trans hb4 (fun _ _ h => h)⟩
            clear hK K
            refine wpAnyH_ready (rs := [6]) (by kernel_rfl) (by simp) ?_
            refine AllReadyH.cons rfl (fun K hK => ?_) AllReadyH.nil
            go_simp
            (go_at_call 19; refine (SC2.out _ A8' c8' hHeld.2 H8.out.rd).mono ?_; rintro e w9 ⟨rfl, q9, hq9⟩; have hb4 : Keeps (fun _ => False) w8 w9 := (by rw [hq9]; exact keeps_drewN _ w8 q9); clear hq9; (try go_simp))
            refine hK.out _ _ ?_ (fun hHeld => ?_)
            · (try dsimp only); exact ⟨(hb4.cell (cell_lt hHeld.1) (fun h => h)).trans hHeld.1, hHeld.2.trans hb4 (fun _ _ h => h)⟩
            clear hK K
            refine wpAnyH_take (i := 7) (v := ?_) rfl (by kernel_rfl) (by kernel_rfl) (by kernel_rfl) (fun _ _ _ h => h) (Or.inl ⟨by rfl, ?_⟩) (by assumption) ?_
            rotate_left
            · (intro w' hSw; (try dsimp only at hSw); go_simp; (try (with_reducible rfl)))
            simp only [Act.put, List.getElem_toArray, List.getElem_cons_succ, List.getElem_cons_zero, List.setIfInBounds_toArray, List.set_cons_succ, List.set_cons_zero]
            refine wpAnyH_done (by kernel_rfl) ?_ _
            have hk9 : Keeps (fun _ => False) wD w9 := (by assumption : w9.cell? ⟨p', 0, none⟩ = some (.slice Ay M cy) ∧ Keeps (fun _ => False) wD w9).2
            have HW9 := Lib.hid (HBw'.out.trans (hk9.toBelow HBw'.out.size (fun b hb => hb.elim)))
            clear hk9
            go_wp2
            go_ret
            exact ⟨rfl, HW9.out⟩
      · exact absurd HOk.out hno
    · have RF2 := Lib.hid (RF.out w2 k2)
      have HB2 : Hid (Below w.heap.size w w2) := HB.out.trans (k2.toBelow HB.out.size (fun b hb => hb.elim))
      have HNok := Lib.hid hnok
      clear k2 RF OF hnok
      go_wp2_with fail
      refine RF2.out.mono ?_
      rintro e w3 ⟨k3, hcase3⟩
      rcases hcase3 with ⟨hok, _⟩ | ⟨_, p', rfl⟩
      · exact absurd hok HNok.out
      · have HB3 : Hid (Below w.heap.size w w3) := HB2.out.trans (k3.toBelow HB2.out.size (fun b hb => hb.elim))
        clear k3
        go_wp2
        go_ret
        exact ⟨rfl, HB3.out⟩

end Go.Proofs.Ytpighdioomjnmaa
