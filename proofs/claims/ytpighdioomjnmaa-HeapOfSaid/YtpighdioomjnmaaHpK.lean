/-
  Layer 10: the walk of HeapKeeps. Written by an AI agent.
-/
import Derived.Test.YtpighdioomjnmaaHpH
import Derived.Deep.DeepCutAuto
import Derived.Deep.CutBlock
import Derived.Deep.CutRange
namespace Go.Proofs.Ytpighdioomjnmaa
open Go.RowKit
set_option linter.unusedVariables false

/-- Lists of noughts. -/
def zl (ns : List Nat) : List (List Int) := ns.map fun n => List.replicate n 0
theorem zl_length (ns : List Nat) : (zl ns).length = ns.length := by simp [zl]
theorem zl_flat (ns : List Nat) : (zl ns).flatten.length = ns.sum := by
  induction ns with
  | nil => rfl
  | cons n ns ih =>
    have e : zl (n :: ns) = List.replicate n 0 :: zl ns := rfl
    rw [e, List.flatten_cons, List.length_append, ih, List.length_replicate, List.sum_cons]
theorem zl_snoc (ns : List Nat) (n : Nat) : zl ns ++ [List.replicate n 0] = zl (ns ++ [n]) := by simp [zl]
theorem zl_zero (ns : List Nat) (k j : Nat) : ((zl ns).getD k []).getD j 0 = 0 := by
  unfold zl
  simp only [List.getD_eq_getElem?_getD, List.getElem?_map]
  rcases h : ns[k]? with _ | n
  · rfl
  · simp only [Option.map_some, Option.getD_some, List.getElem?_replicate]
    split <;> rfl
theorem sum_snoc (ns : List Nat) (n : Nat) : (ns ++ [n]).sum = ns.sum + n := by simp

theorem and31f : ∀ x : Fin 256, bits BinOp.and IntKind.u8 (x.val : Int) 31 = ((x.val % 32 : Nat) : Int) := by decide +kernel
theorem and31 (x : Nat) (h : x < 256) : bits BinOp.and IntKind.u8 (x : Int) 31 = ((x % 32 : Nat) : Int) := and31f ⟨x, h⟩
theorem and15f : ∀ x : Fin 256, bits BinOp.and IntKind.u8 (x.val : Int) 15 = ((x.val % 16 : Nat) : Int) := by decide +kernel
theorem and15 (x : Nat) (h : x < 256) : bits BinOp.and IntKind.u8 (x : Int) 15 = ((x % 16 : Nat) : Int) := and15f ⟨x, h⟩

theorem HeapL.narrow {w : World} {S : Nat → Prop} {p : Nat} {L : List (List Int)} (h : HeapL w S p L) : HeapL w (fun k => S k ∧ k < w.heap.size) p L :=
  h.wider fun k hk hS => ⟨hS, hk⟩

theorem lenAt_set (L : List (List Int)) (k i : Nat) (n a : Int) : lenAt (setL L k i n) a = lenAt L a := by
  unfold lenAt
  rw [setL_length, setL_len]

theorem setL_get {L : List (List Int)} {a i n : Int} (h : 1 ≤ a ∧ a ≤ (L.length : Int)) (hi : 0 ≤ i ∧ i < ((L.getD (a.toNat - 1) []).length : Int)) :
    ((setL L (a.toNat - 1) i.toNat n).getD (a.toNat - 1) []).getD i.toNat 0 = n := by
  rw [setL_getD, if_pos ⟨rfl, by omega⟩, List.getD_eq_getElem?_getD, List.getElem?_set, if_pos rfl, if_pos (by omega)]
  rfl

theorem put_len {L L' : List (List Int)} {a i n t : Int} (h : (InL L a i ∧ t = 0 ∧ L' = setL L (a.toNat - 1) i.toNat n) ∨ (¬ InL L a i ∧ t = 2 ∧ L' = L)) :
    L'.length = L.length ∧ L'.flatten.length = L.flatten.length ∧ ∀ x : Int, lenAt L' x = lenAt L x := by
  rcases h with ⟨_, _, rfl⟩ | ⟨_, _, rfl⟩
  · exact ⟨setL_length _ _ _ _, setL_flat_length _ _ _ _, fun x => lenAt_set _ _ _ _ _⟩
  · exact ⟨rfl, rfl, fun _ => rfl⟩

/-- Bytes at a slice's cells. -/
def BytesAt (w : World) (A : Option Addr) (l : List Nat) : Prop :=
  0 < l.length → ∃ b off, A = some ⟨b, off, none⟩ ∧ b < w.heap.size ∧ ∀ i, i < l.length → w.cell? ⟨b, off + i, none⟩ = some (.int .u8 ((l.getD i 0 : Nat) : Int))

set_option maxRecDepth 100000 in
set_option maxHeartbeats 4000000 in
theorem keeps_walk (A : Option Addr) (len cap : Nat) (l : List Nat) (a0 a1 : Nat) (n : Int) (w : World) (hlen : l.length = len) (hlb : len ≤ 9223372036854775807) (hl : ∀ v ∈ l, v < 256) (hA : BytesAt w A l) (h0 : a0 < 256) (h1 : a1 < 256) :
    Calls Try.prog 5 #[.slice A len cap, .agg #[.int .u8 (a0 : Int), .int .u8 (a1 : Int)], .int .i64 n] w fun e w' => e = .returned (.bool true) ∧ Below w.heap.size w w' := by
  have HLen := Lib.hid hlen
  have HL := Lib.hid hl
  have HA := Lib.hid hA
  clear hlen hl hA
  go_enter Try.func5, Try.ntmps5
  go_wp2_with fail
  refine (shown_any _).mono ?_
  rintro e w1 ⟨rfl, hb1⟩
  obtain ⟨ob, hob⟩ : ∃ ob : Nat, ob = w.heap.size := ⟨_, rfl⟩
  have hq0 : w1.cell? ⟨ob, 0, none⟩ = some (.int .u8 (a0 : Int)) := by rw [hob]; exact (hb1.cell (p := ⟨w.heap.size, 0, none⟩) (by simp)).trans (by simp)
  have hq1 : w1.cell? ⟨ob, 1, none⟩ = some (.int .u8 (a1 : Int)) := by rw [hob]; exact (hb1.cell (p := ⟨w.heap.size, 1, none⟩) (by simp)).trans (by simp)
  have hobl : ob < w1.heap.size := by have := hb1.size; simp at this; omega
  have hB1 : Below w.heap.size w w1 := ((Below.refl _ w).alloc (Nat.le_refl _) _).trans (hb1.mono (by simp))
  have hobw : w.heap.size ≤ ob := by omega
  rw [← hob]
  have Q0 := Lib.hid hq0
  have Q1 := Lib.hid hq1
  have HB1 := Lib.hid hB1
  clear hb1 hob hq0 hq1 hB1
  go_wp2_with fail
  refine (new_any _).mono ?_
  rintro e w2 ⟨rfl, hw2⟩
  have H2 := heapL_new w1
  have B2 : Below w.heap.size w w2 := by rw [hw2]; exact HB1.out.alloc HB1.out.size _
  have K2 : Keeps (fun _ => False) w1 w2 := by rw [hw2]; exact (Keeps.refl _ _).alloc _
  rw [← hw2] at H2
  obtain ⟨p, hpe⟩ : ∃ p : Nat, p = w1.heap.size := ⟨_, rfl⟩
  rw [← hpe] at H2 hobl ⊢
  have hq0 : w2.cell? ⟨ob, 0, none⟩ = some (.int .u8 (a0 : Int)) := (K2.cell (by omega) (fun h => h)).trans Q0.out
  have hq1 : w2.cell? ⟨ob, 1, none⟩ = some (.int .u8 (a1 : Int)) := (K2.cell (by omega) (fun h => h)).trans Q1.out
  have hB2 : Below p w2 w2 := Below.refl _ _
  have hp2 : p < w2.heap.size := H2.lt
  have HH2 := Lib.hid H2
  have HB2 := Lib.hid B2
  have C0 := Lib.hid hq0
  have C1 := Lib.hid hq1
  clear H2 B2 hw2 HB1 K2 Q0 Q1 hq0 hq1 hB2 hpe
  go_upto_block 0 with fail
  go_cut [9] (fun s9 wx => ∃ ns : List Nat, s9 = .int .i64 (ns.length : Int) ∧ ns.length + ns.sum ≤ 40 ∧ HeapL wx (fun b => p ≤ b) p (zl ns) ∧ Below p w2 wx)
  case first =>
    go_wp2_with fail
    go_loopw [9, 10, 11] (fun m c i wr => ∃ (k : Nat) (ns : List Nat), k ≤ 20 ∧ k ≤ len ∧ i = .int .i64 k ∧ m = .int .i64 (ns.length : Int) ∧ c = .int .i64 ((ns.length : Int) + (ns.sum : Int)) ∧ ns.length + ns.sum ≤ 40 ∧ HeapL wr (fun b => p ≤ b) p (zl ns) ∧ Below p w2 wr) (fun _ _ i _ => 20 - (intOf i).toNat)
    case atStart => exact ⟨0, [], by omega, by omega, rfl, rfl, rfl, by decide, HH2.out.wider (fun k _ hk => by subst hk; exact Nat.le_refl _), Below.refl _ _⟩
    case round =>
      obtain ⟨k, ns, hk, hkl, rfl, rfl, rfl, h40, hh, hb⟩ := hrel
      have HH := Lib.hid hh
      have HB := Lib.hid hb
      clear hh hb
      by_cases hlt : k < len
      · by_cases h20 : k < 20
        · have hlt' : (k : Int) < (len : Int) := by omega
          have h20' : (k : Int) < 20 := by omega
          obtain ⟨b, off, rfl, hbl, hcell⟩ := HA.out (by rw [HLen.out]; omega)
          obtain ⟨x, hx⟩ : ∃ x : Nat, x = l.getD k 0 := ⟨_, rfl⟩
          have hx256 : x < 256 := by
            rw [hx, List.getD_eq_getElem?_getD, List.getElem?_eq_getElem (by rw [HLen.out]; exact hlt)]
            exact HL.out _ (List.getElem_mem _)
          have hc := hcell k (by rw [HLen.out]; exact hlt)
          rw [← hx] at hc
          have hs2 := HB2.out.size
          have hcr : wr.cell? ⟨b, off + k, none⟩ = some (.int .u8 (x : Int)) := (HB.out.cell (p := ⟨b, off + k, none⟩) (show b < p by omega)).trans ((HB2.out.cell (p := ⟨b, off + k, none⟩) hbl).trans hc)
          have ha := and31 x hx256
          obtain ⟨y, hy⟩ : ∃ y : Nat, y = x % 32 := ⟨_, rfl⟩
          rw [← hy] at ha
          have hy32 : y < 32 := by omega
          obtain ⟨N, hN⟩ : ∃ N : Nat, N = ns.length := ⟨_, rfl⟩
          obtain ⟨M, hM⟩ : ∃ M : Nat, M = ns.sum := ⟨_, rfl⟩
          have MC := Lib.hid (make_any wr _ p (zl ns) HH.out (by rw [zl_length]; omega) (by rw [zl_flat]; omega) (y : Int))
          rw [← hN, ← hM] at h40 ⊢
          have HN := Lib.hid hN
          have HM := Lib.hid hM
          clear hx hc hy hN hM hs2 hcell
          go_wp2_with fail
          refine MC.out.mono ?_
          rintro e w3 ⟨xx, tt, L', rfl, H3, K3, hcase⟩
          have hsr := HB.out.size
          have HB3 : Hid (Below p w2 w3) := HB.out.trans (K3.toBelow (by omega) (fun _ h => h))
          have H3' := H3.wider (T := fun b => p ≤ b) (fun b _ hb => by rcases hb with hb | hb; exact hb; omega)
          have HH3 := Lib.hid H3'
          clear H3 K3 H3' hsr
          unfold Fits at hcase
          rw [zl_length, zl_flat, ← HN.out, ← HM.out] at hcase
          rcases hcase with ⟨c1, rfl, rfl, hL⟩ | ⟨_, c1, c2, rfl, rfl, hL⟩ | ⟨_, c1, c2, rfl, rfl, hL⟩
          · have HL' := Lib.hid hL
            have c3 : ¬ (y : Int) ≤ 16 := by omega
            have hd : decide ((y : Int) ≤ 16) = false := decide_eq_false c3
            clear c1 hL
            go_wp2
            go_roundw
            case rel =>
              refine ⟨k + 1, ns, by omega, by omega, by go_num, by rw [← HN.out], by rw [← HN.out, ← HM.out], by rw [← HN.out, ← HM.out]; exact h40, ?_, HB3.out⟩
              have h := HH3.out
              rw [HL'.out] at h
              exact h
            case measure => simp [intOf]; omega
          · have HL' := Lib.hid hL
            have c3 : ¬ (N : Int) + (M : Int) + (y : Int) + 1 ≤ 40 := by omega
            have hd : decide ((N : Int) + (M : Int) + (y : Int) + 1 ≤ 40) = false := decide_eq_false c3
            clear c2 hL
            go_wp2
            go_roundw
            case rel =>
              refine ⟨k + 1, ns, by omega, by omega, by go_num, by rw [← HN.out], by rw [← HN.out, ← HM.out], by rw [← HN.out, ← HM.out]; exact h40, ?_, HB3.out⟩
              have h := HH3.out
              rw [HL'.out] at h
              exact h
            case measure => simp [intOf]; omega
          · have HL' := Lib.hid hL
            have c3 : (N : Int) + (M : Int) + (y : Int) + 1 ≤ 40 := by omega
            have hd : decide ((N : Int) + (M : Int) + (y : Int) + 1 ≤ 40) = true := decide_eq_true c3
            clear c2 hL
            go_wp2
            go_roundw
            case rel =>
              have e1 : (ns ++ [y]).length = N + 1 := by rw [List.length_append, ← HN.out]; rfl
              have e2 : (ns ++ [y]).sum = M + y := by rw [sum_snoc, ← HM.out]
              refine ⟨k + 1, ns ++ [y], by omega, by omega, by go_num, by rw [e1]; go_num, by rw [e1, e2]; go_num, by rw [e1, e2]; omega, ?_, HB3.out⟩
              have h := HH3.out
              rw [HL'.out, Int.toNat_natCast, zl_snoc] at h
              exact h
            case measure => simp [intOf]; omega
        · have h20' : ¬ (k : Int) < 20 := by omega
          have hlt' : (k : Int) < (len : Int) := by omega
          have hd : decide ((k : Int) < 20) = false := decide_eq_false h20'
          go_wp2_with fail
          go_meet
          exact ⟨ns, rfl, h40, HH.out, HB.out⟩
      · have hlt' : ¬ (k : Int) < (len : Int) := by omega
        have hd : decide ((k : Int) < (len : Int)) = false := decide_eq_false hlt'
        go_wp2_with fail
        go_meet
        exact ⟨ns, rfl, h40, HH.out, HB.out⟩
  case rest =>
    obtain ⟨ns, rfl, h40, hh, hb⟩ := hcut
    obtain ⟨wA, rfl⟩ : ∃ wA : World, wA = wc := ⟨_, rfl⟩
    have hNa := HeapL.narrow hh
    have q0 : wA.cell? ⟨ob, 0, none⟩ = some (.int .u8 (a0 : Int)) := (hb.cell (p := ⟨ob, 0, none⟩) hobl).trans C0.out
    have q1 : wA.cell? ⟨ob, 1, none⟩ = some (.int .u8 (a1 : Int)) := (hb.cell (p := ⟨ob, 1, none⟩) hobl).trans C1.out
    have hpw : p < wA.heap.size := hh.lt
    have hBW : Below w.heap.size w wA := HB2.out.trans (hb.mono (by omega))
    obtain ⟨N, hN⟩ : ∃ N : Nat, N = ns.length := ⟨_, rfl⟩
    have hzN : (zl ns).length = N := by rw [zl_length, hN]
    have LC := Lib.hid (lists_ok wA _ p (zl ns) hNa (by rw [zl_length]; omega) (by rw [zl_flat]; omega))
    have hS40 : (zl ns).length + (zl ns).flatten.length ≤ 40 := by rw [zl_length, zl_flat]; exact h40
    have hN40 : N ≤ 40 := by omega
    rw [← hN]
    have HN := Lib.hid hN
    have HZ := Lib.hid hzN
    have HS := Lib.hid hS40
    have HH := Lib.hid hNa
    have HW := Lib.hid hBW
    clear hh hb hN hzN hS40 hNa hBW h40
    go_wp2_with fail
    refine LC.out.mono ?_
    rintro e w4 ⟨vb, capb, Ab, rfl, rfl, Hb, Kb⟩
    have hHL4 := HH.out.keep Kb (fun _ _ _ h => h)
    have r0 : w4.cell? ⟨ob, 0, none⟩ = some (.int .u8 (a0 : Int)) := (Kb.cell (by omega) (fun h => h)).trans q0
    have r1 : w4.cell? ⟨ob, 1, none⟩ = some (.int .u8 (a1 : Int)) := (Kb.cell (by omega) (fun h => h)).trans q1
    have s4 : wA.heap.size ≤ w4.heap.size := Kb.size
    have hB4 : Below w.heap.size w w4 := HW.out.trans (Kb.toBelow HW.out.size (fun b hb => hb.elim))
    rw [HZ.out] at Hb ⊢
    have HBf := Lib.hid Hb
    have HL4 := Lib.hid hHL4
    have HB4 := Lib.hid hB4
    clear Hb Kb hHL4 hB4 LC
    have e0 := and15 a0 h0
    have e1 := and31 a1 h1
    obtain ⟨y0, hy0⟩ : ∃ y : Nat, y = a0 % 16 := ⟨_, rfl⟩
    obtain ⟨y1, hy1⟩ : ∃ y : Nat, y = a1 % 32 := ⟨_, rfl⟩
    rw [← hy0] at e0
    rw [← hy1] at e1
    have hy0b : y0 < 16 := by omega
    have hy1b : y1 < 32 := by omega
    clear hy0 hy1
    go_wp2_with fail
    refine (put_any w4 _ p (zl ns) HL4.out (by have := HS.out; omega) (by have := HS.out; omega) (y0 : Int) (y1 : Int) n).mono ?_
    rintro e w5 ⟨t, L', rfl, H5, K5, hP⟩
    have hlen := put_len hP
    have HL5 := Lib.hid H5
    have HK5 := Lib.hid K5
    have HP := Lib.hid hP
    have HLn := Lib.hid hlen
    clear H5 K5 hP hlen e0 e1 r0 r1
    go_wp2_with fail
    refine (get_any w5 _ p L' HL5.out (by have := HS.out; rw [HLn.out.1]; omega) (by have := HS.out; rw [HLn.out.2.1]; omega) (y0 : Int) (y1 : Int)).mono ?_
    rintro e w6 ⟨g, t2, rfl, K6, hG⟩
    have HK6 := Lib.hid K6
    have HG := Lib.hid hG
    have hHL6 := HL5.out.keep K6 (fun _ _ _ h => h)
    have HL6 := Lib.hid hHL6
    clear K6 hG hHL6
    go_upto_region 25 with fail
    go_cut [161] (fun s wx => s = .bool false ∧ Keeps (fun _ => False) w6 wx)
    case first =>
      obtain ⟨m, hm⟩ : ∃ m : Nat, m = lenAt L' (y0 : Int) := ⟨_, rfl⟩
      have LN := Lib.hid (len_ok w6 _ p L' HL6.out (by have := HS.out; rw [HLn.out.1]; omega) (by have := HS.out; rw [HLn.out.2.1]; omega) (y0 : Int))
      have hp := HP.out
      have hg := HG.out
      have hl1 := HLn.out.2.2 (y0 : Int)
      have hl2 := HLn.out.1
      rw [HZ.out] at hl2
      have hml : m = lenAt (zl ns) (y0 : Int) := hm.trans hl1
      have hunf : lenAt (zl ns) (y0 : Int) = if 1 ≤ (y0 : Int) ∧ (y0 : Int) ≤ (N : Int) then ((zl ns).getD ((y0 : Int).toNat - 1) []).length else 0 := by unfold lenAt; rw [HZ.out]
      unfold InL at hp hg
      rw [← hm] at hg LN
      rw [← hml] at hp
      rcases hp with ⟨c1, rfl, hL⟩ | ⟨c1, rfl, hL⟩
      · rcases hg with ⟨c2, rfl, hgv⟩ | ⟨c2, _⟩
        · have hgn : g = n := by
            rw [hgv, hL]
            have h9 := c1.2
            rw [hml, hunf] at h9
            have h8 := HZ.out
            split at h9
            · exact setL_get (by omega) ⟨by omega, h9⟩
            · omega
          have d1 : decide (1 ≤ (y0 : Int)) = true := by
            refine decide_eq_true ?_
            have := c1.2
            rw [hml, hunf] at this
            split at this <;> omega
          have d2 : decide ((y0 : Int) ≤ (N : Int)) = true := by
            refine decide_eq_true ?_
            have := c1.2
            rw [hml, hunf] at this
            split at this <;> omega
          have d3 : decide ((y1 : Int) < (m : Int)) = true := decide_eq_true c1.2
          have d4 := of_decide_eq_true d1
          have d5 := of_decide_eq_true d2
          have d6 := c1.2
          clear c1 c2 hL hgv hunf hml hm hl1 hl2
          subst hgn
          go_wp2_with fail
          refine LN.out.mono ?_
          rintro e w7 ⟨rfl, q, hq⟩
          have K7 : Hid (Keeps (fun _ => False) w6 w7) := by rw [hq]; exact keeps_drewN _ w6 q
          clear hq
          go_wp2_with fail
          go_meet
          exact ⟨rfl, K7.out⟩
        · exact absurd c1 c2
      · rcases hg with ⟨c2, _⟩ | ⟨c2, rfl, rfl⟩
        · exact absurd c2 c1
        · by_cases z1 : 1 ≤ (y0 : Int)
          · by_cases z2 : (y0 : Int) ≤ (N : Int)
            · have d1 : decide (1 ≤ (y0 : Int)) = true := decide_eq_true z1
              have d2 : decide ((y0 : Int) ≤ (N : Int)) = true := decide_eq_true z2
              have d6 : ¬ (y1 : Int) < (m : Int) := by omega
              have d3 : decide ((y1 : Int) < (m : Int)) = false := decide_eq_false d6
              clear c1 c2 hL hunf hml hm hl1 hl2
              go_wp2_with fail
              refine LN.out.mono ?_
              rintro e w7 ⟨rfl, q, hq⟩
              have K7 : Hid (Keeps (fun _ => False) w6 w7) := by rw [hq]; exact keeps_drewN _ w6 q
              clear hq
              go_wp2_with fail
              go_meet
              exact ⟨congrArg Value.bool (decide_eq_false (by omega)), K7.out⟩
            · have d1 : decide (1 ≤ (y0 : Int)) = true := decide_eq_true z1
              have d2 : decide ((y0 : Int) ≤ (N : Int)) = false := decide_eq_false z2
              clear c1 c2 hL hunf hml hm hl1 hl2 LN
              go_wp2_with fail
              go_meet
              exact ⟨rfl, Keeps.refl _ _⟩
          · have d1 : decide (1 ≤ (y0 : Int)) = false := decide_eq_false z1
            clear c1 c2 hL hunf hml hm hl1 hl2 LN
            go_wp2_with fail
            go_meet
            exact ⟨rfl, Keeps.refl _ _⟩
    case rest =>
      obtain ⟨rfl, K7⟩ := hcut
      -- what holds of the lists from here on
      have hp := HP.out
      have hval : ∀ x k : Nat, ¬ (t = 0 ∧ (x : Int) = (y0 : Int) - 1 ∧ (k : Int) = (y1 : Int)) → (L'.getD x []).getD k 0 = 0 := by
        intro x k hne
        rcases hp with ⟨hin, ht, hL⟩ | ⟨_, _, hL⟩
        · obtain ⟨kk, jj, e1, e2, _⟩ := hin.parts
          rw [hL, setL_getD]
          split
          · rename_i hc
            rw [List.getD_eq_getElem?_getD, List.getElem?_set]
            split
            · rename_i hk
              have h1 := hc.1
              exact absurd ⟨ht, by omega, by omega⟩ hne
            · rw [← List.getD_eq_getElem?_getD]
              exact zl_zero ns _ _
          · exact zl_zero ns _ _
        · rw [hL]
          exact zl_zero ns _ _
      have hlens : ∀ x : Nat, (L'.getD x []).length = ((zl ns).getD x []).length := by
        intro x
        rcases hp with ⟨_, _, hL⟩ | ⟨_, _, hL⟩
        · rw [hL, setL_len]
        · rw [hL]
      have ht : t = 0 ∨ t = 2 := by
        rcases hp with ⟨_, h, _⟩ | ⟨_, h, _⟩
        · exact .inl h
        · exact .inr h
      have hN' : L'.length = N := HLn.out.1.trans HZ.out
      have hHL7 := HL6.out.keep K7 (fun _ _ _ h => h)
      have k47 : Keeps (fun b => p ≤ b ∧ b < wA.heap.size) w4 wc := (HK5.out.trans HK6.out (fun _ _ h => h.elim)).trans K7 (fun _ _ h => h.elim)
      have hBf7 := HBf.out.keep k47 (fun k hk hS hT => absurd hT.2 (Nat.not_lt.2 hS))
      have hB7 : Below w.heap.size w wc := HB4.out.trans (k47.toBelow HB4.out.size (fun b hb => by have := HB2.out.size; omega))
      have l40 : L'.length + L'.flatten.length ≤ 40 := by have := HS.out; rw [HLn.out.1, HLn.out.2.1]; exact this
      have LC := Lib.hid (lists_ok wc _ p L' hHL7 (by omega) (by omega))
      have HV := Lib.hid hval
      have HE := Lib.hid hlens
      have HT := Lib.hid ht
      have HN' := Lib.hid hN'
      have HL7 := Lib.hid hHL7
      have HBf7 := Lib.hid hBf7
      have HB7 := Lib.hid hB7
      have H40 := Lib.hid l40
      clear hp hval hlens ht hN' hHL7 hBf7 hB7 l40 k47 K7
      go_wp2_with fail
      refine LC.out.mono ?_
      rintro e w8 ⟨va, capa, Aa, rfl, rfl, Ha, Ka⟩
      rw [HN'.out] at Ha ⊢
      have hB8 : Below w.heap.size w w8 := HB7.out.trans (Ka.toBelow HB7.out.size (fun b hb => hb.elim))
      have HA8 := Lib.hid Ha
      have HBf8 := Lib.hid (HBf7.out.keep Ka (fun _ _ _ h => h))
      have HL8 := Lib.hid (HL7.out.keep Ka (fun _ _ _ h => h))
      have HB8 := Lib.hid hB8
      clear Ha Ka hB8 LC
      go_wp2_with fail
      go_loopw [23] (fun s wr => ∃ x : Nat, x ≤ N ∧ s = .int .i64 x ∧ Keeps (fun _ => False) w8 wr) (fun s _ => N - (intOf s).toNat)
      case atStart => exact ⟨0, Nat.zero_le _, rfl, Keeps.refl _ _⟩
      case round =>
        obtain ⟨x, hx, rfl, kr⟩ := hrel
        by_cases hxN : x < N
        · have hxN' : (x : Int) < (N : Int) := by omega
          obtain ⟨m, hm⟩ : ∃ m : Nat, m = (L'.getD x []).length := ⟨_, rfl⟩
          have ra := HA8.out.keep kr (fun _ _ _ h => h)
          rw [← HN'.out] at ra
          obtain ⟨g1, A1, c1, hA1, hc1, hd1⟩ := ra.read (i := x) (by rw [HN'.out]; exact hxN)
          have rb := HBf8.out.keep kr (fun _ _ _ h => h)
          rw [← HZ.out] at rb
          obtain ⟨g3, A3, c3, hA3, hc3, hd3⟩ := rb.read (i := x) (by rw [HZ.out]; exact hxN)
          rw [← HE.out x, ← hm] at hc3 hd3
          rw [← hm] at hc1 hd1
          have hm40 : m ≤ 40 := by
            have f1 := flat_take L' x (by rw [HN'.out]; exact hxN)
            have f2 := flat_le L' (x + 1)
            have := H40.out
            omega
          have LNQ : Hid (∀ q, Calls Try.prog 16 #[.pointer (some ⟨p, 0, none⟩), .int .i64 ((x : Int) + 1)] (wr.drewN q) fun e w' => e = .returned (.int .i64 (m : Int)) ∧ ∃ k, w' = (wr.drewN q).drewN k) := fun q => by
            have h := len_ok (wr.drewN q) _ p L' ((HL8.out.keep kr (fun _ _ _ h => h)).keep (T := fun _ => False) (keeps_drewN _ wr q) (fun _ _ _ h => h)) (by have := H40.out; omega) (by have := H40.out; omega) ((x : Int) + 1)
            rw [lenAt_in (by rw [HN'.out]; exact hxN), ← hm] at h
            exact h
          have HD1 := Lib.hid hd1
          have HD3 := Lib.hid hd3
          have KR := Lib.hid kr
          have HM := Lib.hid hm
          subst hA1
          subst hA3
          clear hd1 hd3 kr hm ra rb
          go_wp2_with fail
          have s1 : IntKind.i64.wrap ((x : Int) + 1) = (x : Int) + 1 := IntWalk.i64_in _ (by omega)
          have s2 : (0 : Int) ≤ (x : Int) := by omega
          go_quiet ((go_at_call 16; exact Calls.quiet_of (LNQ.out _)))
          clear s1 s2
          obtain ⟨w9, hw9⟩ : ∃ w9 : World, w9 = wr.drewN nq := ⟨_, rfl⟩
          have k9 : Keeps (fun _ => False) wr w9 := by rw [hw9]; exact keeps_drewN _ wr nq
          rw [← hw9]
          replace hc1 : w9.cell? ⟨g1, x, none⟩ = some (.slice A1 m c1) := by rw [hw9]; simpa using hc1
          replace hc3 : w9.cell? ⟨g3, x, none⟩ = some (.slice A3 m c3) := by rw [hw9]; simpa using hc3
          have hdr : ∀ b o, w9.cell? ⟨b, o, none⟩ = wr.cell? ⟨b, o, none⟩ := fun b o => by rw [hw9]; simp
          have K9 := Lib.hid k9
          have HDR := Lib.hid hdr
          clear hw9 k9 hdr LNQ
          go_wp2_with fail
          go_loop [24] (fun s => ∃ k : Nat, k ≤ m ∧ s = .int .i64 k) (fun s => m - (intOf s).toNat)
          case atStart => exact ⟨0, Nat.zero_le _, rfl⟩
          case round =>
            obtain ⟨k, hk, rfl⟩ := hrel
            by_cases hkm : k < m
            · have hkm' : (k : Int) < (m : Int) := by omega
              obtain ⟨g2, hA2, hv2⟩ := HD1.out k hkm
              obtain ⟨g4, hA4, hv4⟩ := HD3.out k hkm
              subst hA2
              subst hA4
              rw [zl_zero, ← HDR.out] at hv4
              rw [← HDR.out] at hv2
              have w1' : IntKind.i64.wrap ((y0 : Int) - 1) = (y0 : Int) - 1 := IntWalk.i64_in _ (by omega)
              rcases HT.out with rfl | rfl
              · by_cases z1 : (x : Int) = (y0 : Int) - 1
                · by_cases z2 : (k : Int) = (y1 : Int)
                  · have b1 : ((x : Int) == (y0 : Int) - 1) = true := by simpa using z1
                    have b2 : ((k : Int) == (y1 : Int)) = true := by simpa using z2
                    have Z1 := Lib.hid z1
                    have Z2 := Lib.hid z2
                    clear z1 z2
                    go_wp2
                    go_round
                    case rel => exact ⟨k + 1, by omega, by go_num⟩
                    case measure => simp [intOf]; omega
                  · have b1 : ((x : Int) == (y0 : Int) - 1) = true := by simpa using z1
                    have b2 : ((k : Int) == (y1 : Int)) = false := by simpa using z2
                    rw [HV.out x k (fun h => z2 h.2.2)] at hv2
                    have Z1 := Lib.hid z1
                    have Z2 := Lib.hid z2
                    clear z1 z2
                    go_wp2
                    go_round
                    case rel => exact ⟨k + 1, by omega, by go_num⟩
                    case measure => simp [intOf]; omega
                · have b1 : ((x : Int) == (y0 : Int) - 1) = false := by simpa using z1
                  rw [HV.out x k (fun h => z1 h.2.1)] at hv2
                  have Z1 := Lib.hid z1
                  clear z1
                  go_wp2
                  go_round
                  case rel => exact ⟨k + 1, by omega, by go_num⟩
                  case measure => simp [intOf]; omega
              · rw [HV.out x k (fun h => absurd h.1 (by decide))] at hv2
                go_wp2
                go_round
                case rel => exact ⟨k + 1, by omega, by go_num⟩
                case measure => simp [intOf]; omega
            · obtain rfl : k = m := by omega
              have hd : decide (k < k) = false := by simp
              go_wp2
              go_roundw
              case rel => exact ⟨x + 1, by omega, by go_num, KR.out.trans K9.out (fun _ _ h => h)⟩
              case measure => simp [intOf]; omega
        · obtain rfl : x = N := by omega
          have hd : decide (x < x) = false := by simp
          have HK := Lib.hid kr
          clear kr
          go_wp2
          go_ret
          exact ⟨rfl, HB8.out.trans (HK.out.toBelow HB8.out.size (fun b hb => hb.elim))⟩

end Go.Proofs.Ytpighdioomjnmaa
