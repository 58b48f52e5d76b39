/-
  Layer 10: the walk of HeapOwn. Written by an AI agent.
-/
import Derived.Test.YtpighdioomjnmaaHpO
import Derived.Test.YtpighdioomjnmaaHpK
import Derived.Deep.DeepCutAuto
import Derived.Deep.CutBlock
import Derived.Deep.CutRange
namespace Go.Proofs.Ytpighdioomjnmaa
open Go.RowKit
set_option linter.unusedVariables false

/-- Lists that came in: each slice has room for what it holds. -/
def ArgL (w : World) (A : Option Addr) (L : List (List Int)) : Prop :=
  0 < L.length → ∃ b off, A = some ⟨b, off, none⟩ ∧ ∀ i, i < L.length → ∃ Ai ci, w.cell? ⟨b, off + i, none⟩ = some (.slice Ai (L.getD i []).length ci) ∧ (L.getD i []).length ≤ ci ∧ ci ≤ maxLen ∧ (Ai = none → ci = 0) ∧ RdV w Ai (iv (L.getD i []))

theorem rdv_keepT {w w' : World} {A : Option Addr} {l : List Value} {T : Nat → Prop} (h : RdV w A l) (hk : Keeps T w w') (hT : ∀ k, k < w.heap.size → ¬ T k) : RdV w' A l :=
  rdv_keep h (hk.mono fun k hk' h => hT k hk' h)
theorem rdl_keepT {w w' : World} {A : Option Addr} {L : List (List Int)} {T : Nat → Prop} (h : RdL w A L) (hk : Keeps T w w') (hT : ∀ k, k < w.heap.size → ¬ T k) : RdL w' A L :=
  rdl_keep h (hk.mono fun k hk' h => hT k hk' h)

theorem rdv_take {w : World} {A : Option Addr} {l : List Int} (h : RdV w A (iv l)) (k : Nat) : RdV w A (iv (l.take k)) := fun h0 => by
  rw [iv_length, List.length_take] at h0
  obtain ⟨b, off, h1, h2⟩ := h (by rw [iv_length]; omega)
  refine ⟨b, off, h1, fun i hi => ?_⟩
  rw [iv_length, List.length_take] at hi
  rw [h2 i (by rw [iv_length]; omega), iv_at (by omega), iv_at (by rw [List.length_take]; omega), List.getD_eq_getElem?_getD, List.getD_eq_getElem?_getD, List.getElem?_take, if_pos (by omega)]

theorem okl_bound {L : List (List Int)} (h : OkL L L.length) : L.length + L.flatten.length ≤ 40 := by
  rcases hL : L.length with _ | k
  · have : L = [] := List.eq_nil_of_length_eq_zero hL
    subst this
    simp
  · have h1 := (h k (by omega)).2
    unfold Fits at h1
    have h2 := flat_take L k (by omega)
    rw [List.take_of_length_le (by omega : L.length ≤ k + 1)] at h2
    rw [List.length_take] at h1
    omega
theorem getD_le_flat (L : List (List Int)) (i : Nat) : (L.getD i []).length ≤ L.flatten.length := by
  rcases Nat.lt_or_ge i L.length with h | h
  · have h1 := flat_take L i h
    have h2 := flat_le L (i + 1)
    omega
  · rw [List.getD_eq_getElem?_getD, List.getElem?_eq_none h]
    simp

/-- Slices of numbers, that lie in an elder world, in a row of the law's own. -/
def OwnL (w0 w : World) (B : Nat) (v : Value) (O : List (List Int)) : Prop :=
  ∃ rows : List Value, w.ownsRow 0 41 1 v O.length rows ∧ (∀ j, v.ownBlock = some j → B ≤ j) ∧ ∀ i, i < O.length → ∃ Ai ci, rows[i]? = some (.slice Ai (O.getD i []).length ci) ∧ RdV w0 Ai (iv (O.getD i []))
theorem OwnL.rd {w0 w : World} {B c : Nat} {A : Option Addr} {O : List (List Int)} (h : OwnL w0 w B (.slice A O.length c) O) (hk : Below w0.heap.size w0 w) : RdL w A O := fun h0 => by
  obtain ⟨rows, h1, _, h3⟩ := h
  rcases h1.2 with ⟨_, h0'⟩ | ⟨g, cap, cur, hv, _⟩
  · omega
  · simp only [Value.slice.injEq] at hv
    obtain ⟨rfl, _, rfl⟩ := hv
    refine ⟨g, 0, rfl, fun i hi => ?_⟩
    obtain ⟨Ai, ci, h4, h5⟩ := h3 i hi
    exact ⟨Ai, ci, by rw [Nat.zero_add, h1.cellAt i (by omega), h4], rdv_keep h5 (Keeps.ofBelow hk)⟩

theorem OwnL.form {w0 w : World} {B : Nat} {v : Value} {O : List (List Int)} (h : OwnL w0 w B v O) : ∃ A c, v = .slice A O.length c := by
  obtain ⟨rows, h1, _⟩ := h
  rcases h1.2 with ⟨e, h0⟩ | ⟨g, cap, cur, e, _⟩
  · exact ⟨none, 0, by rw [e, h0]⟩
  · exact ⟨_, cap, e⟩

theorem OwnL.snoc {w0 w w2 : World} {B : Nat} {v v2 : Value} {O : List (List Int)} {x : List Int} {Ai : Option Addr} {ci m k : Nat} {ob : Obj} {rows : List Value} (hk : O.length = k) (h1 : w.ownsRow 0 41 1 v k rows) (h2 : ∀ j, v.ownBlock = some j → B ≤ j) (h3 : ∀ i, i < O.length → ∃ Ai ci, rows[i]? = some (.slice Ai (O.getD i []).length ci) ∧ RdV w0 Ai (iv (O.getD i [])))
    (hB : B ≤ w.heap.size) (hx : RdV w0 Ai (iv x)) (hm : x.length = m) (hown : w2.ownsRow 0 41 1 v2 (k + 1) (rows ++ [.slice Ai m ci])) (hb : v2.ownBlock = v.ownBlock ∨ v2.ownBlock = some (w.alloc ob).heap.size) : OwnL w0 w2 B v2 (O ++ [x]) := by
  subst hk
  have hrl : rows.length = O.length := by have := h1.1; omega
  refine ⟨rows ++ [.slice Ai m ci], by rw [List.length_append]; exact hown, fun j hj => ?_, fun i hi => ?_⟩
  · rcases hb with e | e
    · exact h2 j (e.symm.trans hj)
    · rw [e] at hj
      have := Option.some.inj hj
      simp at this
      omega
  · rw [List.length_append, List.length_singleton] at hi
    rcases Nat.lt_or_ge i O.length with h | h
    · obtain ⟨A2, c2, e1, e2⟩ := h3 i h
      have eO : (O ++ [x]).getD i [] = O.getD i [] := by rw [List.getD_eq_getElem?_getD, List.getElem?_append_left h, ← List.getD_eq_getElem?_getD]
      rw [eO]
      exact ⟨A2, c2, by rw [List.getElem?_append_left (by omega)]; exact e1, e2⟩
    · obtain rfl : i = O.length := by omega
      have eO : (O ++ [x]).getD O.length [] = x := by rw [List.getD_eq_getElem?_getD, List.getElem?_concat_length]; rfl
      rw [eO, hm]
      refine ⟨Ai, ci, ?_, hx⟩
      rw [← hrl, List.getElem?_concat_length]
theorem snoc_le {O : List (List Int)} {x : List Int} {k : Nat} (h : ∀ i, (O.getD i []).length ≤ k) (hx : x.length ≤ k) : ∀ i, ((O ++ [x]).getD i []).length ≤ k := fun i => by
  rcases Nat.lt_or_ge i O.length with h1 | h1
  · rw [List.getD_eq_getElem?_getD, List.getElem?_append_left h1, ← List.getD_eq_getElem?_getD]
    exact h i
  · rcases Nat.lt_or_ge O.length i with h2 | h2
    · rw [List.getD_eq_getElem?_getD, List.getElem?_eq_none (by rw [List.length_append]; simp; omega)]
      simp
    · obtain rfl : i = O.length := by omega
      rw [List.getD_eq_getElem?_getD, List.getElem?_concat_length]
      exact hx

set_option maxRecDepth 100000 in
set_option maxHeartbeats 4000000 in
theorem own_walk (A : Option Addr) (len cap : Nat) (L : List (List Int)) (i0 i1 n : Int) (w : World) (hlen : L.length = len) (hlb : len ≤ 9223372036854775807) (hlr : ∀ i, (L.getD i []).length ≤ 9223372036854775807) (hA : ArgL w A L) :
    Calls Try.prog 6 #[.slice A len cap, .agg #[.int .i64 i0, .int .i64 i1], .int .i64 n] w fun e w' => e = .returned (.bool true) ∧ Below w.heap.size w w' := by
  obtain ⟨j0, hj, hy0, hy1, hy2⟩ := info_parts info41
  have HLen := Lib.hid hlen
  have HLr := Lib.hid hlr
  have HA := Lib.hid hA
  clear hlen hlr hA
  go_enter Try.func6, Try.ntmps6
  go_wp2_with fail
  refine (shown_any _).mono ?_
  rintro e w1 ⟨rfl, hb1⟩
  obtain ⟨ob, hob⟩ : ∃ ob : Nat, ob = w.heap.size := ⟨_, rfl⟩
  have hq0 : w1.cell? ⟨ob, 0, none⟩ = some (.int .i64 i0) := by rw [hob]; exact (hb1.cell (p := ⟨w.heap.size, 0, none⟩) (by simp)).trans (by simp)
  have hq1 : w1.cell? ⟨ob, 1, none⟩ = some (.int .i64 i1) := by rw [hob]; exact (hb1.cell (p := ⟨w.heap.size, 1, none⟩) (by simp)).trans (by simp)
  have hobl : ob < w1.heap.size := by have := hb1.size; simp at this; omega
  have hB1 : Below w.heap.size w w1 := ((Below.refl _ w).alloc (Nat.le_refl _) _).trans (hb1.mono (by simp))
  have hobw : w.heap.size ≤ ob := by omega
  rw [← hob]
  have Q0 := Lib.hid hq0
  have Q1 := Lib.hid hq1
  have HB1 := Lib.hid hB1
  clear hb1 hob hq0 hq1 hB1
  obtain ⟨Z, hZ⟩ : ∃ Z : Nat, Z = w1.heap.size := ⟨_, rfl⟩
  have hEmp : OwnL w (w1.alloc (.cells #[] 41)) Z (.slice (some ⟨Z, 0, none⟩) 0 0) [] := by
    refine ⟨[], ?_, fun j hj => ?_, fun i hi => absurd hi (Nat.not_lt_zero _)⟩
    · rw [hZ]
      exact World.ownsRow_lit (base := 0) (e := 41) (size := 1) w1 #[] 0 (Nat.zero_le _) (by unfold maxLen; omega) rfl
    · have : Z = j := by simpa [Value.ownBlock] using hj
      omega
  have hE1 : Below Z w1 (w1.alloc (.cells #[] 41)) := by rw [hZ]; exact (Below.refl _ _).alloc (Nat.le_refl _) _
  have HEmp := Lib.hid hEmp
  have HE1 := Lib.hid hE1
  have HZ := Lib.hid hZ
  have hwZ : w.heap.size ≤ Z := by rw [hZ]; exact HB1.out.size
  have hobZ : ob < Z := by rw [hZ]; exact hobl
  clear hEmp hE1 hZ hobl
  go_upto_block 0 with fail
  rw [← HZ.out]
  go_cut [8] (fun s8 wx => ∃ (A8 : Option Addr) (c8 : Nat) (O : List (List Int)), s8 = .slice A8 O.length c8 ∧ O.length ≤ 20 ∧ (∀ i, (O.getD i []).length ≤ 20) ∧ OwnL w wx Z (.slice A8 O.length c8) O ∧ Below Z w1 wx)
  case first =>
    go_wp2_with fail
    go_loopw [8, 9] (fun v i wr => ∃ (k : Nat) (O : List (List Int)), k ≤ 20 ∧ k ≤ len ∧ i = .int .i64 k ∧ O.length = k ∧ (∀ i, (O.getD i []).length ≤ 20) ∧ OwnL w wr Z v O ∧ Below Z w1 wr) (fun _ i _ => 20 - (intOf i).toNat)
    case atStart => exact ⟨0, [], by omega, by omega, rfl, rfl, by simp, HEmp.out, HE1.out⟩
    case round =>
      obtain ⟨k, O, hk, hkl, rfl, hOk, hO20, hown, hbz⟩ := hrel
      by_cases hlt : k < len
      · by_cases h20 : k < 20
        · have hlt' : (k : Int) < (len : Int) := by omega
          have h20' : (k : Int) < 20 := by omega
          have hk0 : (0 : Int) ≤ (k : Int) := by omega
          obtain ⟨b, off, rfl, ha⟩ := HA.out (by rw [HLen.out]; omega)
          obtain ⟨Ai, ci, hc, hmc, hcm, hAn, hrd⟩ := ha k (by rw [HLen.out]; exact hlt)
          have hbl := cell_lt hc
          have hwZ2 : w1.heap.size = Z := HZ.out.symm
          have hcr : wr.cell? ⟨b, off + k, none⟩ = some (.slice Ai (L.getD k []).length ci) := (hbz.cell (p := ⟨b, off + k, none⟩) (show b < Z by omega)).trans ((HB1.out.cell (p := ⟨b, off + k, none⟩) hbl).trans hc)
          obtain ⟨m, hm⟩ : ∃ m : Nat, m = (L.getD k []).length := ⟨_, rfl⟩
          have hmb : m ≤ 9223372036854775807 := by rw [hm]; exact HLr.out k
          rw [← hm] at hcr hmc
          obtain ⟨rows, o1, o2, o3⟩ := hown
          have hbs := hbz.size
          have HM := Lib.hid hm
          have HR := Lib.hid hrd
          have HAn := Lib.hid hAn
          rw [hOk] at o1
          have O1 := Lib.hid o1
          have O2 := Lib.hid o2
          have O3 := Lib.hid o3
          have HBz := Lib.hid hbz
          have HO := Lib.hid hOk
          have HO20 := Lib.hid hO20
          have HW := Lib.hid hwZ2
          clear ha hc hm hrd hAn o1 o2 o3 hbz hOk hO20 hwZ2 hbs hcm
          by_cases m20 : 20 < m
          · have m20' : (20 : Int) < (m : Int) := by omega
            have c20 : (20 : Int) ≤ (ci : Int) := by omega
            obtain ⟨bi, oi, hAi, _⟩ := HR.out (by rw [iv_length, ← HM.out]; omega)
            subst hAi
            have hn20 : ¬ ci = 0 := by omega
            go_wp2_with (at_builtin; refine wpList_append_at rfl (.tmp 38) (.tmp 40) 27 rfl 0 41 j0 _ 24 Try.underlying27 hj hy0 hy1 hy2 (by rfl) _ k rows (by rfl) (O1.out.alloc _) _ 1 1 [_] (by rfl) (by simp) (by rfl) (rdv_new _ _ _) (by simp [Value.oneCell']) (by omega) (by omega) (by omega) ?_
                         intro v5 w5 hown5 hg5 hb5
                         have H5 := Lib.hid hown5
                         have G5 := Lib.hid hg5
                         have B5 := Lib.hid hb5
                         clear hown5 hg5 hb5)
            go_roundw
            case rel =>
              have hxm : ((L.getD k []).take 20).length = 20 := by rw [List.length_take, ← HM.out]; omega
              have hs := HBz.out.size
              refine ⟨k + 1, O ++ [(L.getD k []).take 20], by omega, by omega, by go_num, by rw [List.length_append, HO.out]; rfl, snoc_le HO20.out (by rw [hxm]; omega), ?_, ?_⟩
              · exact OwnL.snoc HO.out O1.out O2.out O3.out (by have := HW.out; omega) (rdv_take HR.out 20) hxm H5.out B5.out
              · have hw := HW.out
                exact (HBz.out.alloc (by omega) _).grown G5.out (by simp; omega) (fun j hj => O2.out j hj)
            case measure => simp [intOf]; omega
          · have m20' : ¬ (20 : Int) < (m : Int) := by omega
            go_wp2_with (at_builtin; refine wpList_append_at rfl (.tmp 38) (.tmp 40) 27 rfl 0 41 j0 _ 24 Try.underlying27 hj hy0 hy1 hy2 (by rfl) _ k rows (by rfl) (O1.out.alloc _) _ 1 1 [_] (by rfl) (by simp) (by rfl) (rdv_new _ _ _) (by simp [Value.oneCell']) (by omega) (by omega) (by omega) ?_
                         intro v5 w5 hown5 hg5 hb5
                         have H5 := Lib.hid hown5
                         have G5 := Lib.hid hg5
                         have B5 := Lib.hid hb5
                         clear hown5 hg5 hb5)
            go_roundw
            case rel =>
              have hxm : (L.getD k []).length = m := by exact HM.out.symm
              have hs := HBz.out.size
              refine ⟨k + 1, O ++ [L.getD k []], by omega, by omega, by go_num, by rw [List.length_append, HO.out]; rfl, snoc_le HO20.out (by rw [hxm]; omega), ?_, ?_⟩
              · exact OwnL.snoc HO.out O1.out O2.out O3.out (by have := HW.out; omega) HR.out hxm H5.out B5.out
              · have hw := HW.out
                exact (HBz.out.alloc (by omega) _).grown G5.out (by simp; omega) (fun j hj => O2.out j hj)
            case measure => simp [intOf]; omega
        · have h20' : ¬ (k : Int) < 20 := by omega
          have hlt' : (k : Int) < (len : Int) := by omega
          have hd : decide ((k : Int) < 20) = false := decide_eq_false h20'
          obtain ⟨A8, c8, rfl⟩ := hown.form
          have HO := Lib.hid hOk
          have HO20 := Lib.hid hO20
          have HOw := Lib.hid hown
          have HBz := Lib.hid hbz
          clear hOk hO20 hown hbz
          go_wp2_with fail
          go_meet
          exact ⟨A8, c8, O, rfl, by rw [HO.out]; omega, HO20.out, HOw.out, HBz.out⟩
      · have hlt' : ¬ (k : Int) < (len : Int) := by omega
        have hd : decide ((k : Int) < (len : Int)) = false := decide_eq_false hlt'
        obtain ⟨A8, c8, rfl⟩ := hown.form
        have HO := Lib.hid hOk
        have HO20 := Lib.hid hO20
        have HOw := Lib.hid hown
        have HBz := Lib.hid hbz
        clear hOk hO20 hown hbz
        go_wp2_with fail
        go_meet
        exact ⟨A8, c8, O, rfl, by rw [HO.out]; omega, HO20.out, HOw.out, HBz.out⟩
  case rest =>
    obtain ⟨A8, c8, O, rfl, hO, hO20, hown, hbz⟩ := hcut
    obtain ⟨wA, rfl⟩ : ∃ wA : World, wA = wc := ⟨_, rfl⟩
    have hbl : Below w.heap.size w wA := HB1.out.trans (hbz.mono (by omega))
    have hrd : RdL wA A8 O := hown.rd hbl
    have q0 : wA.cell? ⟨ob, 0, none⟩ = some (.int .i64 i0) := (hbz.cell (p := ⟨ob, 0, none⟩) hobZ).trans Q0.out
    have q1 : wA.cell? ⟨ob, 1, none⟩ = some (.int .i64 i1) := (hbz.cell (p := ⟨ob, 1, none⟩) hobZ).trans Q1.out
    have hobA : ob < wA.heap.size := cell_lt q0
    have OF := Lib.hid (of_any wA A8 c8 O (by omega) (fun i => Nat.le_trans (hO20 i) (by omega)) hrd)
    have HR := Lib.hid hrd
    have HB := Lib.hid hbl
    clear hO hO20 hown hbz hbl hrd
    obtain ⟨N, hN⟩ : ∃ N : Nat, N = O.length := ⟨_, rfl⟩
    rw [← hN] at OF ⊢
    have HN := Lib.hid hN
    clear hN
    go_wp2_with fail
    refine OF.out.mono ?_
    rintro e w2 ⟨k2, hcase⟩
    have r0 : w2.cell? ⟨ob, 0, none⟩ = some (.int .i64 i0) := (k2.cell hobA (fun h => h)).trans q0
    have r1 : w2.cell? ⟨ob, 1, none⟩ = some (.int .i64 i1) := (k2.cell hobA (fun h => h)).trans q1
    have HB2 : Hid (Below w.heap.size w w2) := HB.out.trans (k2.toBelow HB.out.size (fun b hb => hb.elim))
    rcases hcase with ⟨hok, p, rfl, h2⟩ | ⟨_, rfl⟩
    · have hb40 := okl_bound hok
      have hgl : ∀ i, (O.getD i []).length ≤ 1000000 := fun i => Nat.le_trans (getD_le_flat O i) (by omega)
      have sA2 := k2.size
      have HR2 := Lib.hid (rdl_keep HR.out k2)
      have CC := Lib.hid (clone_ok w2 _ p O h2 (by omega) (by omega))
      have H2 := Lib.hid h2
      have H40 := Lib.hid hb40
      have HGl := Lib.hid hgl
      have hob2 : ob < w2.heap.size := cell_lt r0
      have HQ2 := Lib.hid (And.intro r0 r1)
      clear k2 q0 q1 h2 hb40 hgl hok
      go_wp2_with fail
      refine CC.out.mono ?_
      rintro e w3 ⟨p', rfl, h3c, k3⟩
      have s3 := k3.size
      have H3 := Lib.hid (H2.out.keep k3 (fun _ _ _ h => h))
      have H3c := Lib.hid h3c
      have K3 : Hid (Keeps (fun k => w2.heap.size ≤ k) w2 w3) := k3.mono (fun _ _ h => h.elim)
      have r0' : w3.cell? ⟨ob, 0, none⟩ = some (.int .i64 i0) := (k3.cell hob2 (fun h => h)).trans r0
      have r1' : w3.cell? ⟨ob, 1, none⟩ = some (.int .i64 i1) := (k3.cell hob2 (fun h => h)).trans r1
      clear h3c k3 r0 r1
      go_wp2_with fail
      refine (put_any w3 _ p' O H3c.out (by have := H40.out; omega) (by have := H40.out; omega) i0 i1 n).mono ?_
      rintro e w4 ⟨t4, L1, rfl, h4c, k4, hP4⟩
      have hl1 := put_len hP4
      have H4 := Lib.hid (H3.out.keep k4 (fun k hk hS hT => absurd hT.1 (by have := hS.2; omega)))
      have H4c := Lib.hid h4c
      have HL1 := Lib.hid hl1
      have K4 : Hid (Keeps (fun k => w2.heap.size ≤ k) w2 w4) := K3.out.trans k4 (fun _ _ h => h.1)
      have s4 := k4.size
      clear h4c k4 hP4 hl1 r0' r1'
      go_wp2_with fail
      refine (make_any w4 _ p' L1 H4c.out (by have := H40.out; rw [HL1.out.1]; omega) (by have := H40.out; rw [HL1.out.2.1]; omega) 1).mono ?_
      rintro e w5 ⟨x5, t5, L2, rfl, h5c, k5, hM5⟩
      have hl2 : L2.length ≤ L1.length + 1 ∧ L2.flatten.length ≤ L1.flatten.length + 1 := by
        rcases hM5 with ⟨_, _, _, rfl⟩ | ⟨_, _, _, _, _, rfl⟩ | ⟨_, _, _, _, _, rfl⟩
        · exact ⟨by omega, by omega⟩
        · exact ⟨by omega, by omega⟩
        · rw [flat_snoc]
          exact ⟨by simp, by simp⟩
      have hb2 : L2.length ≤ 41 ∧ L2.flatten.length ≤ 41 := by
        have := H40.out
        rw [HL1.out.1, HL1.out.2.1] at hl2
        omega
      have H5 := Lib.hid (H4.out.keep k5 (fun k hk hS hT => absurd hT.1 (by have := hS.2; omega)))
      have H5c := Lib.hid (h5c.wider (T := fun k => w2.heap.size ≤ k) (fun k _ hS => by rcases hS with hS | hS; exact hS.1; show w2.heap.size ≤ k; omega))
      have HB2' := Lib.hid hb2
      have K5 : Hid (Keeps (fun k => w2.heap.size ≤ k) w2 w5) := K4.out.trans k5 (fun _ _ h => h.1)
      have s5 := k5.size
      clear h5c k5 hM5 hl2 hb2
      go_wp2_with fail
      refine (lists_ok w5 _ p O H5.out (by have := H40.out; omega) (by have := H40.out; omega)).mono ?_
      rintro e w6 ⟨v6, c6, A6, rfl, rfl, h6, k6⟩
      rw [← HN.out]
      have K6 : Hid (Keeps (fun k => w2.heap.size ≤ k) w2 w6) := K5.out.trans k6 (fun _ _ h => h.elim)
      have SC := same_same w6 A6 A8 c6 c8 O (by have := H40.out; omega) HGl.out h6.rd (rdl_keepT HR2.out K6.out (fun k hk => by show ¬ w2.heap.size ≤ k; omega))
      rw [← HN.out] at SC
      have SCh := Lib.hid SC
      have H6 := Lib.hid (H5.out.keep k6 (fun _ _ _ h => h))
      have H6c := Lib.hid (H5c.out.keep k6 (fun _ _ _ h => h))
      have s6 := k6.size
      clear h6 k6 SC
      go_wp2_with fail
      refine SCh.out.mono ?_
      rintro e w7 ⟨rfl, q7, hq7⟩
      have k7 : Keeps (fun _ => False) w6 w7 := by rw [hq7]; exact keeps_drewN _ w6 q7
      have H7 := Lib.hid (H6.out.keep k7 (fun _ _ _ h => h))
      have H7c := Lib.hid (H6c.out.keep k7 (fun _ _ _ h => h))
      have K7 : Hid (Keeps (fun k => w2.heap.size ≤ k) w2 w7) := K6.out.trans k7 (fun _ _ h => h.elim)
      have s7 := k7.size
      clear hq7 k7
      go_wp2_with fail
      refine (lists_ok w7 _ p' L2 H7c.out (by have := HB2'.out; omega) (by have := HB2'.out; omega)).mono ?_
      rintro e w8 ⟨v8, c8', Ab, rfl, rfl, h8, k8⟩
      obtain ⟨M, hM⟩ : ∃ M : Nat, M = L2.length := ⟨_, rfl⟩
      have H8 := Lib.hid (H7.out.keep k8 (fun _ _ _ h => h))
      have H8c := Lib.hid (H7c.out.keep k8 (fun _ _ _ h => h))
      have H8b := Lib.hid h8
      have K8 : Hid (Keeps (fun k => w2.heap.size ≤ k) w2 w8) := K7.out.trans k8 (fun _ _ h => h.elim)
      rw [← hM]
      have HM := Lib.hid hM
      have s8 := k8.size
      have ob8 : w8.cell? ⟨ob, 0, none⟩ = some (.int .i64 i0) ∧ w8.cell? ⟨ob, 1, none⟩ = some (.int .i64 i1) := by
        have h : ∀ o, w8.cell? ⟨ob, o, none⟩ = w2.cell? ⟨ob, o, none⟩ := fun o => K8.out.cell hob2 (by show ¬ w2.heap.size ≤ ob; omega)
        exact ⟨(h 0).trans HQ2.out.1, (h 1).trans HQ2.out.2⟩
      obtain ⟨q80, q81⟩ := ob8
      clear h8 k8 hM
      go_wp2_with fail
      refine (put_any w8 _ p O H8.out (by have := H40.out; omega) (by have := H40.out; omega) i0 i1 _).mono ?_
      rintro e w9 ⟨t9, L3, rfl, h9, k9, hP9⟩
      have hl3 := put_len hP9
      have s9 := k9.size
      have H9 := Lib.hid h9
      have H9c := Lib.hid (H8c.out.keep k9 (fun k hk hS hT => absurd hT.2 (Nat.not_lt.2 hS)))
      have H9b := Lib.hid (H8b.out.keep k9 (fun k hk hS hT => absurd hT.2 (by have : w7.heap.size ≤ k := hS; omega)))
      have K9 : Hid (Keeps (fun k => wA.heap.size ≤ k) w2 w9) := (K8.out.mono (T := fun k => wA.heap.size ≤ k) (fun k _ h => by have : w2.heap.size ≤ k := h; show wA.heap.size ≤ k; omega)).trans k9 (fun _ _ h => h.1)
      have HL3 := Lib.hid hl3
      clear h9 k9 hP9 hl3 q80 q81
      go_wp2_with fail
      refine (make_any w9 _ p L3 H9.out (by have := H40.out; rw [HL3.out.1]; omega) (by have := H40.out; rw [HL3.out.2.1]; omega) 2).mono ?_
      rintro e w10 ⟨x10, t10, L4, rfl, _, k10, _⟩
      have s10 := k10.size
      have H10c := Lib.hid (H9c.out.keep k10 (fun k hk hS hT => absurd hT.2 (Nat.not_lt.2 hS)))
      have H10b := Lib.hid (H9b.out.keep k10 (fun k hk hS hT => absurd hT.2 (by have : w7.heap.size ≤ k := hS; omega)))
      have K10 : Hid (Keeps (fun k => wA.heap.size ≤ k) w2 w10) := K9.out.trans k10 (fun _ _ h => h.1)
      clear k10
      go_wp2_with fail
      refine (lists_ok w10 _ p' L2 H10c.out (by have := HB2'.out; omega) (by have := HB2'.out; omega)).mono ?_
      rintro e w11 ⟨v11, c11, Aa, rfl, rfl, h11, k11⟩
      have K11 : Hid (Keeps (fun k => wA.heap.size ≤ k) w2 w11) := K10.out.trans k11 (fun _ _ h => h.elim)
      have SC := same_same w11 Aa Ab c11 c8' L2 (by have := HB2'.out; omega) (fun i => Nat.le_trans (getD_le_flat L2 i) (by have := HB2'.out; omega)) h11.rd ((H10b.out.keep k11 (fun _ _ _ h => h)).rd)
      rw [← HM.out] at SC ⊢
      have SCh := Lib.hid SC
      clear h11 k11 SC
      go_wp2_with fail
      refine SCh.out.mono ?_
      rintro e w12 ⟨rfl, q12, hq12⟩
      have k12 : Keeps (fun _ => False) w11 w12 := by rw [hq12]; exact keeps_drewN _ w11 q12
      have hfin : Below w.heap.size w w12 := HB2.out.trans ((K11.out.trans k12 (fun _ _ h => h.elim)).toBelow HB2.out.size (fun b hb => by have : wA.heap.size ≤ b := hb; have := HB.out.size; omega))
      have HFin := Lib.hid hfin
      clear hq12 k12 hfin
      go_wp2
      go_ret
      exact ⟨rfl, HFin.out⟩
    · clear k2 q0 q1 r0 r1
      go_wp2
      go_ret
      exact ⟨rfl, HB2.out⟩

end Go.Proofs.Ytpighdioomjnmaa
