/-
  Layer 2: ParseBelow. Written by an AI agent.
-/
import Derived.Test.YtgelggdgbmldiaaDoorPcG
import Derived.BigQuiet
import Derived.Deep.LoopGhost
import Derived.Deep.Light
namespace Go.Proofs.YtgelggdgbmldiaaDoor
open Go Go.RowKit Go.Shelf
set_option linter.unusedVariables false
set_option linter.unusedSimpArgs false

/-- What ParseBelow's loops keep: the tree's blocks, and how often each was counted. -/
structure Cnt (w1 : World) (V m : Nat) (acc : List Int) (w : World) : Prop where
  k : Keeps (fun _ => False) w1 w
  row : Loc w (fun _ => False) V (tmV m acc)
theorem Cnt.keep {w1 w w' : World} {V m : Nat} {acc : List Int} (h : Cnt w1 V m acc w) (k : Keeps (fun _ => False) w w') : Cnt w1 V m acc w' := ⟨h.k.trans k (fun _ _ h => h), h.row.keeps k⟩
theorem Cnt.set {w1 w : World} {V m : Nat} {acc : List Int} (h : Cnt w1 V m acc w) (hV : w1.heap.size ≤ V) {j : Nat} (hj : j < m) : Cnt w1 V m (acc ++ [(j : Int)]) (w.setCell ⟨V, j, none⟩ (.int .i64 ((acc.count (j : Int) : Nat) + 1 : Int))) :=
  ⟨h.k.setCell (p := ⟨V, j, none⟩) (fun hb => absurd (show V < w1.heap.size from hb) (by omega)) _, by
    have := h.row.set j (.int .i64 ((acc.count (j : Int) : Nat) + 1 : Int)) (by rw [tmV_len]; exact hj)
    rwa [tmV_set hj] at this⟩
theorem Loc.far {w : World} {R : Nat → Prop} {X V : Nat} {vs : List Value} (h : Loc w R X vs) (hX : X ≠ V) (j : Nat) (u : Value) : Loc (w.setCell ⟨V, j, none⟩ u) R X vs :=
  h.keepsR (S := fun b => b = V) ((Keeps.refl (fun b => b = V) w).setCell (p := ⟨V, j, none⟩) (fun _ => rfl) u) hX

theorem infoI : (Tryd.prog.info? 3).map (fun i => (i.zero, i.size, i.bytes)) = some (some (.int .i64 0), 1, 8) := by kernel_rfl
set_option maxRecDepth 100000 in
set_option maxHeartbeats 16000000 in
theorem below_walk (s : ByteArray) (w : World) (he : ErrW w) : Calls Tryd.prog 3 #[.string s] w fun e w' => e = .returned (.bool true) ∧ Keeps (fun _ => False) w w' := by
  have SC := Lib.hid (shown_any w he)
  have HE := Lib.hid he
  clear he
  go_enter Tryd.func3, Tryd.ntmps3
  go_wp2_with fail
  refine SC.out.mono ?_
  rintro e w1 ⟨rfl, k1⟩
  have SH := Lib.hid (short_any s w1)
  clear SC
  go_wp2_with fail
  refine SH.out.mono ?_
  rintro e w2 ⟨⟨t, ht, rfl⟩, rfl⟩
  obtain ⟨res, hres⟩ := allP_some t.data.toList 6100 (Nat.le_refl _)
  have AC := Lib.hid (pall_any t (by omega) 6100 (by omega) res hres w2 (HE.out.keep k1))
  have HR := Lib.hid hres
  have K1 := Lib.hid k1
  clear SH hres k1 ht HE
  go_wp2_with fail
  refine AC.out.mono ?_
  rintro e w1 ⟨h1, k2⟩
  have K2 := Lib.hid (K1.out.trans k2 (fun _ _ h => h))
  clear K1 k2 AC
  rcases res with ⟨p, er⟩ | ⟨nd, fs⟩
  · obtain rfl := h1
    have hne := errs_ne _ _ _ _ HR.out
    have hne2 : ¬ ((er : Nat) : Int) = 0 := by omega
    have hd : decide (((er : Nat) : Int) = 0) = false := decide_eq_false hne2
    have ka := Keeps.one w1 (.cells #[.slice none 0 0, .slice none 0 0] 27)
    have zx := Loc.new (w := w1) (R := fun _ => False) (fun h => h) [.slice none 0 0, .slice none 0 0] 27
    go_upto_region 4 with fail
    obtain ⟨U, hU⟩ : ∃ U, U = w1.heap.size := ⟨_, rfl⟩
    obtain ⟨w3, hw3⟩ : ∃ w3, w3 = w1.alloc (.cells #[.slice none 0 0, .slice none 0 0] 27) := ⟨_, rfl⟩
    have zx : Loc w3 (fun _ => False) U [.slice none 0 0, .slice none 0 0] := by rw [hw3, hU]; exact zx
    rw [← hU]
    rw [← hw3] at ka ⊢
    have KA := Lib.hid (K2.out.trans ka (fun _ _ h => h))
    have z0 := zx.cells 0 _ rfl
    have z1 := zx.cells 1 _ rfl
    clear hw3 hU zx ka
    go_wp2_with fail
    go_ret
    exact ⟨rfl, KA.out⟩
  · obtain ⟨A, c, A', c', h1, ht⟩ := h1
    have HD := Lib.hid (belowT_of _ _ nd fs HR.out)
    obtain ⟨m, hm⟩ : ∃ m, m = nd.length := ⟨_, rfl⟩
    obtain ⟨k, hk⟩ : ∃ k, k = fs.length := ⟨_, rfl⟩
    have h2 : e = .returned (.tuple #[.agg #[.slice A m c, .slice A' k c'], .int .i64 0, .int .i64 0]) := by rw [h1, hm, hk]
    clear h1
    subst h2
    have hm3 : m ≤ 300 := by rw [hm]; exact HD.out.many
    have hk3 : k ≤ 6 := by rw [hk]; exact HD.out.fns
    have HM := Lib.hid hm
    have HK := Lib.hid hk
    have HM3 := Lib.hid hm3
    have HK3 := Lib.hid hk3
    have ka := Keeps.one w1 (.cells #[.slice A m c, .slice A' k c'] 27)
    have zx := Loc.new (w := w1) (R := fun _ => False) (fun h => h) [.slice A m c, .slice A' k c'] 27
    have HT0 := Lib.hid (ht.keep ka)
    clear HR ht hm hk
    go_upto_region 4 with fail
    obtain ⟨X, hX⟩ : ∃ X, X = w1.heap.size := ⟨_, rfl⟩
    obtain ⟨w3, hw3⟩ : ∃ w3, w3 = w1.alloc (.cells #[.slice A m c, .slice A' k c'] 27) := ⟨_, rfl⟩
    have zx : Loc w3 (fun _ => False) X [.slice A m c, .slice A' k c'] := by rw [hw3, hX]; exact zx
    rw [← hX]
    rw [← hw3] at ka HT0 ⊢
    have KA := Lib.hid (K2.out.trans ka (fun _ _ h => h))
    have ZX := Lib.hid zx
    have z0 := zx.cells 0 _ rfl
    clear hw3 hX zx ka K2
    have hmk := run_make_row' (P := Tryd.prog) 31 3 (.int .i64 0) 8 Tryd.underlying31 infoI rfl .i64 .i64 m (by omega) (by omega)
    have zv := Loc.new (w := w3) (R := fun _ => False) (fun h => h) (tmV m []) 3
    rw [← tmV_new] at zv
    have kv := Keeps.one w3 (.cells (madeCells #[.int .i64 0] m) 3)
    go_upto_region 7 with fail
    obtain ⟨V, hV⟩ : ∃ V, V = w3.heap.size := ⟨_, rfl⟩
    obtain ⟨w4, hw4⟩ : ∃ w4, w4 = w3.alloc (.cells (madeCells #[.int .i64 0] m) 3) := ⟨_, rfl⟩
    rw [← hV] at zv
    rw [← hw4] at zv kv
    rw [← hV]
    rw [← hw4]
    have CN := Lib.hid (show Cnt w3 V m [] w4 from ⟨kv, zv⟩)
    have HV := Lib.hid (Nat.le_of_eq hV.symm)
    have HXV := Lib.hid (show X ≠ V by have := ZX.out.lt; omega)
    clear hmk zv kv hV hw4 z0
    go_wp2_with fail
    go_loopg [8, 9, 10, 11, 12, 13] (m + 1) (fun g s8 s9 s10 s11 s12 s13 wr => ∃ i : Nat, s8 = .int .i64 i ∧ i + g = m + 1 ∧ i ≤ m ∧ Cnt w3 V m ((nd.take i).flatMap Nd.l) wr)
    case atStart => exact ⟨0, rfl, by omega, by omega, by simpa using CN.out⟩
    case round =>
      obtain ⟨i, rfl, hik, hle, cr⟩ := hrel
      have CR := Lib.hid cr
      have HIK := Lib.hid hik
      have z0 := (ZX.out.keeps cr.k).cells 0 _ rfl
      have z1 := (ZX.out.keeps cr.k).cells 1 _ rfl
      obtain ⟨g0, hg0⟩ : ∃ g0, g0 = gk := ⟨_, rfl⟩
      subst hg0
      obtain ⟨wo, hwo⟩ : ∃ wo, wo = wr := ⟨_, rfl⟩
      subst hwo
      by_cases hin : i < m
      · have hinI : (i : Int) < (m : Int) := by omega
        have hd : decide ((i : Int) < (m : Int)) = true := decide_eq_true hinI
        have hi0 : (0 : Int) ≤ (i : Int) := by omega
        have hm1 := HM3.out
        have hw := IntWalk.i64_in ((i : Int) + 1) (by omega)
        have up : ∀ {b o : Nat} {v : Value}, w3.cell? ⟨b, o, none⟩ = some v → wo.cell? ⟨b, o, none⟩ = some v := fun hc => (cr.k.cell (cell_ltk hc) (fun h => h)).trans hc
        obtain ⟨b1, o1, rfl, h1⟩ := HT0.out.nodeAt (by rw [← HM.out]; omega)
        have hin2 : i < nd.length := by rw [← HM.out]; exact hin
        obtain ⟨a1, q1, n0, n1, n2, n3, n4, nr⟩ := h1 i hin2
        have KD := Lib.hid (HD.out.kids i nd[i] (List.getElem?_eq_getElem hin2))
        have NI := Lib.hid (List.getElem?_eq_getElem hin2)
        generalize nd[i] = ni at n0 n1 n2 n3 n4 nr KD NI
        obtain ⟨kk, ln, nn, ss, l⟩ := ni
        obtain ⟨L, hL⟩ : ∃ L, L = l.length := ⟨_, rfl⟩
        have n4 : w3.cell? ⟨b1, o1 + i * 5 + 4, none⟩ = some (.slice a1 L q1) := by rw [hL]; exact n4
        have HL := Lib.hid hL
        have n0 : w3.cell? ⟨b1, o1 + i * 5, none⟩ = some (.int .i64 kk) := n0
        have n1 : w3.cell? ⟨b1, o1 + i * 5 + 1, none⟩ = some (.int .i64 ln) := n1
        have n2 : w3.cell? ⟨b1, o1 + i * 5 + 2, none⟩ = some (.int .i64 nn) := n2
        have n3 : w3.cell? ⟨b1, o1 + i * 5 + 3, none⟩ = some (.string (ofL ss)) := n3
        generalize ofL ss = e3 at n3
        have HIN := Lib.hid hin
        have NR := Lib.hid (show RdI w3 a1 l from nr)
        have HN1 := Lib.hid h1
        have n0 := up n0
        have n1 := up n1
        have n2 := up n2
        have n3 := up n3
        have n4 := up n4
        have ka := Keeps.one wo (.cells #[.int .i64 kk, .int .i64 ln, .int .i64 nn, .string e3, .slice a1 L q1] 33)
        have zu := Loc.new (w := wo) (R := fun _ => False) (fun h => h) [.int .i64 kk, .int .i64 ln, .int .i64 nn, .string e3, .slice a1 L q1] 33
        clear h1 hik hin hL nr hin2 up
        go_upto_region 11 with fail
        obtain ⟨U, hU⟩ : ∃ U, U = wo.heap.size := ⟨_, rfl⟩
        obtain ⟨w5, hw5⟩ : ∃ w5, w5 = wo.alloc (.cells #[.int .i64 kk, .int .i64 ln, .int .i64 nn, .string e3, .slice a1 L q1] 33) := ⟨_, rfl⟩
        rw [← hU] at zu
        rw [← hw5] at zu ka
        rw [← hU]
        rw [← hw5]
        have ZU := Lib.hid zu
        have C5 := Lib.hid (CR.out.keep ka)
        have HUV := Lib.hid (show U ≠ V by have := CR.out.row.lt; omega)
        have HKL := Lib.hid (show L ≤ 300 ∧ ∀ q, q < L → ∃ (j : Nat) (mm : Nd), l.getD q 0 = (j : Int) ∧ j < i ∧ nd[j]? = some mm ∧ ln ≤ mm.ln from ⟨by have h1 := KD.out.len; have h2 := HL.out; have h3 := HM3.out; have h4 := HIN.out; have h1 : l.length ≤ i := h1; omega, fun q hq => KD.out.at (q := q) (by rw [← HL.out]; exact hq)⟩)
        have HAS := Lib.hid (show ∀ q, q + 1 < L → l.getD q 0 < l.getD (q + 1) 0 from fun q hq => KD.out.asc (q := q) (by rw [← HL.out]; exact hq))
        clear zu ka hU hw5 n0 n1 n2 n3 n4 z0 z1 cr
        go_wp2_with fail
        go_loopg [10, 11] (L + 1) (fun g s10 s11 wr => ∃ q : Nat, s10 = .int .i64 q ∧ q + g = L + 1 ∧ q ≤ L ∧ Cnt w3 V m ((nd.take i).flatMap Nd.l ++ l.take q) wr ∧ Loc wr (fun _ => False) U [.int .i64 kk, .int .i64 ln, .int .i64 nn, .string e3, .slice a1 L q1])
        case atStart => exact ⟨0, rfl, by omega, by omega, by simpa using C5.out, ZU.out⟩
        case round =>
          obtain ⟨q, rfl, hqk, hqle, cq, zq⟩ := hrel
          have CQ := Lib.hid cq
          have ZQ := Lib.hid zq
          have HQK := Lib.hid hqk
          have z0 := (ZX.out.keeps cq.k).cells 0 _ rfl
          have zq1 := zq.cells 1 _ rfl
          have zq4 := zq.cells 4 _ rfl
          by_cases hq : q < L
          · have hqI : (q : Int) < (L : Int) := by omega
            have hdq : decide ((q : Int) < (L : Int)) = true := decide_eq_true hqI
            obtain ⟨j, mm, hj, hji, hnj, hjl⟩ := HKL.out.2 q hq
            have up : ∀ {b o : Nat} {v : Value}, w3.cell? ⟨b, o, none⟩ = some v → wr.cell? ⟨b, o, none⟩ = some v := fun hc => (cq.k.cell (cell_ltk hc) (fun h => h)).trans hc
            obtain ⟨b2, o2, rfl, h2⟩ := NR.out (by rw [← HL.out]; omega)
            have x0 := up (h2 q (by rw [← HL.out]; exact hq))
            rw [hj] at x0
            have hjm : j < m := by have := HIN.out; omega
            obtain ⟨_, _, -, yy, -⟩ := HN1.out j (by rw [← HM.out]; exact hjm)
            have y1 : wr.cell? ⟨b1, o1 + j * 5 + 1, none⟩ = some (.int .i64 mm.ln) := by
              have e : nd[j]'(by rw [← HM.out]; exact hjm) = mm := (List.getElem?_eq_some_iff.mp hnj).2
              rw [← e]
              exact up yy
            clear yy
            generalize mm.ln = lx at y1 hjl
            have hjI : (j : Int) < (m : Int) := by omega
            have hj0 : (0 : Int) ≤ (j : Int) := by omega
            have hq0 : (0 : Int) ≤ (q : Int) := by omega
            have d1 : ¬ (j : Int) < 0 := by omega
            have d1' : decide ((j : Int) < 0) = false := decide_eq_false d1
            have d2 : ¬ (i : Int) ≤ (j : Int) := by omega
            have d2' : decide ((i : Int) ≤ (j : Int)) = false := decide_eq_false d2
            have d3 : ¬ lx < ln := by omega
            have d3' : decide (lx < ln) = false := decide_eq_false d3
            have hql := HKL.out.1
            have hwq := IntWalk.i64_in ((q : Int) + 1) (by omega)
            have HJM := Lib.hid hjm
            have HLJ := Lib.hid hj
            have HPQ := Lib.hid (show (0 : Int) ≤ (q : Int) from hq0)
            have HJ := Lib.hid hji
            have HQ := Lib.hid hq
            clear hnj hji hjm hqk cq zq
            rcases q with _ | q
            · clear h2 hq up
              have x0 : wr.cell? ⟨b2, o2, none⟩ = some (.int .i64 (j : Int)) := x0
              go_upto_region 15 with fail
              go_quiet (fail)
              have kd := drew_keeps wr nq
              generalize wr.drewN nq = wd at *
              have cd := CQ.out.keep kd
              have zd := ZQ.out.keeps kd
              have v0 := cd.row.cells j _ (tmV_at HJM.out)
              have vf := cd.row.fz j
              have hcb : ((nd.take i).flatMap Nd.l ++ l.take (0)).count (j : Int) ≤ 1000000 := Nat.le_trans (acc_le HD.out NI.out (by rw [← HM.out]; exact HJM.out)) (by omega)
              have CN2 := Lib.hid (cd.set HV.out HJM.out)
              have ZU2 := Lib.hid (zd.far HUV.out j (.int .i64 (((((nd.take i).flatMap Nd.l ++ l.take (0)).count (j : Int) : Nat) : Int) + 1)))
              have HTK : Hid (((nd.take i).flatMap Nd.l ++ l.take (0)) ++ [(j : Int)] = (nd.take i).flatMap Nd.l ++ l.take (0 + 1)) := Lib.hid (by rw [List.append_assoc, take_next HLJ.out (by rw [← HL.out]; exact HQ.out)])
              generalize ((nd.take i).flatMap Nd.l ++ l.take (0)) = acc at v0 hcb CN2 ZU2 HTK
              generalize acc.count (j : Int) = cc at v0 hcb CN2 ZU2
              have hwc := IntWalk.i64_in ((cc : Int) + 1) (by omega)
              clear cd zd kd zq1 zq4 x0 y1 z0 
              go_wp2_with fail
              go_roundg (gk - 1)
              case measure => go_light; have h1 := HQK.out; have h2 := HQ.out; omega
              case rel => exact ⟨0 + 1, by go_num, by have h1 := HQK.out; have h2 := HQ.out; go_light; omega, by have h2 := HQ.out; go_light; omega, by rw [← HTK.out]; exact CN2.out, ZU2.out⟩
            · have x1 := up (h2 q (by rw [← HL.out]; omega))
              have hyj := HAS.out q hq
              rw [hj] at hyj
              generalize l.getD q 0 = y at x1 hyj
              have d4 : (0 : Int) < (q : Int) + 1 := by omega
              have d4' : decide ((0 : Int) < (q : Int) + 1) = true := decide_eq_true d4
              have d5 : ¬ (j : Int) ≤ y := by omega
              have d5' : decide ((j : Int) ≤ y) = false := decide_eq_false d5
              have hwq3 := IntWalk.i64_in ((q : Int)) (by omega)
              have hqp : (0 : Int) ≤ (q : Int) := by omega
              have hqq : (q : Int) < (L : Int) := by omega
              clear h2 hq up
              go_upto_region 15 with fail
              go_quiet (fail)
              have kd := drew_keeps wr nq
              generalize wr.drewN nq = wd at *
              have cd := CQ.out.keep kd
              have zd := ZQ.out.keeps kd
              have v0 := cd.row.cells j _ (tmV_at HJM.out)
              have vf := cd.row.fz j
              have hcb : ((nd.take i).flatMap Nd.l ++ l.take (q + 1)).count (j : Int) ≤ 1000000 := Nat.le_trans (acc_le HD.out NI.out (by rw [← HM.out]; exact HJM.out)) (by omega)
              have CN2 := Lib.hid (cd.set HV.out HJM.out)
              have ZU2 := Lib.hid (zd.far HUV.out j (.int .i64 (((((nd.take i).flatMap Nd.l ++ l.take (q + 1)).count (j : Int) : Nat) : Int) + 1)))
              have HTK : Hid (((nd.take i).flatMap Nd.l ++ l.take (q + 1)) ++ [(j : Int)] = (nd.take i).flatMap Nd.l ++ l.take (q + 1 + 1)) := Lib.hid (by rw [List.append_assoc, take_next HLJ.out (by rw [← HL.out]; exact HQ.out)])
              generalize ((nd.take i).flatMap Nd.l ++ l.take (q + 1)) = acc at v0 hcb CN2 ZU2 HTK
              generalize acc.count (j : Int) = cc at v0 hcb CN2 ZU2
              have hwc := IntWalk.i64_in ((cc : Int) + 1) (by omega)
              clear cd zd kd zq1 zq4 x0 y1 z0 x1
              go_wp2_with fail
              go_roundg (gk - 1)
              case measure => go_light; have h1 := HQK.out; have h2 := HQ.out; omega
              case rel => exact ⟨q + 1 + 1, by go_num, by have h1 := HQK.out; have h2 := HQ.out; go_light; omega, by have h2 := HQ.out; go_light; omega, by rw [← HTK.out]; exact CN2.out, ZU2.out⟩
          · obtain rfl : q = L := by omega
            have hqI : ¬ (q : Int) < (q : Int) := by omega
            have hdq : decide ((q : Int) < (q : Int)) = false := decide_eq_false hqI
            have zq0 := zq.cells 0 _ rfl
            have CF := Lib.hid (show Cnt w3 V m ((nd.take (i + 1)).flatMap Nd.l) wr from by
              rw [flat_next NI.out]
              have h := cq
              rwa [show l.take q = l by rw [HL.out, List.take_length]] at h)
            have hc := many_cases (show manyK kk l.length = true from KD.out.1)
            rw [← HL.out] at hc
            have hw := IntWalk.i64_in ((i : Int) + 1) (by have := HM3.out; have := HIN.out; omega)
            clear hq hqk cq zq z0 hqle
            rcases hc with ⟨hk | hk | hk | hk | hk, hL⟩ | ⟨hk | hk | hk | hk | hk | hk | hk | hk | hk, hL⟩ | ⟨hk | hk | hk, hL⟩ | ⟨hk, hL | hL⟩ | ⟨hk, hL⟩ | hk | hk
            · subst hk
              have e1 : ((q : Int) == 0) = true := beq_iff_eq.mpr (by omega)
              have e2 : decide ((q : Int) = 0) = true := decide_eq_true (by omega)
              clear hL
              go_wp2_with fail
              go_roundg (g0 - 1)
              case measure => go_light; have h1 := HIK.out; have h2 := HIN.out; omega
              case rel => exact ⟨i + 1, by go_num, by have h1 := HIK.out; have h2 := HIN.out; go_light; omega, by have h2 := HIN.out; go_light; omega, CF.out⟩
            · subst hk
              have e1 : ((q : Int) == 0) = true := beq_iff_eq.mpr (by omega)
              have e2 : decide ((q : Int) = 0) = true := decide_eq_true (by omega)
              clear hL
              go_wp2_with fail
              go_roundg (g0 - 1)
              case measure => go_light; have h1 := HIK.out; have h2 := HIN.out; omega
              case rel => exact ⟨i + 1, by go_num, by have h1 := HIK.out; have h2 := HIN.out; go_light; omega, by have h2 := HIN.out; go_light; omega, CF.out⟩
            · subst hk
              have e1 : ((q : Int) == 0) = true := beq_iff_eq.mpr (by omega)
              have e2 : decide ((q : Int) = 0) = true := decide_eq_true (by omega)
              clear hL
              go_wp2_with fail
              go_roundg (g0 - 1)
              case measure => go_light; have h1 := HIK.out; have h2 := HIN.out; omega
              case rel => exact ⟨i + 1, by go_num, by have h1 := HIK.out; have h2 := HIN.out; go_light; omega, by have h2 := HIN.out; go_light; omega, CF.out⟩
            · subst hk
              have e1 : ((q : Int) == 0) = true := beq_iff_eq.mpr (by omega)
              have e2 : decide ((q : Int) = 0) = true := decide_eq_true (by omega)
              clear hL
              go_wp2_with fail
              go_roundg (g0 - 1)
              case measure => go_light; have h1 := HIK.out; have h2 := HIN.out; omega
              case rel => exact ⟨i + 1, by go_num, by have h1 := HIK.out; have h2 := HIN.out; go_light; omega, by have h2 := HIN.out; go_light; omega, CF.out⟩
            · subst hk
              have e1 : ((q : Int) == 0) = true := beq_iff_eq.mpr (by omega)
              have e2 : decide ((q : Int) = 0) = true := decide_eq_true (by omega)
              clear hL
              go_wp2_with fail
              go_roundg (g0 - 1)
              case measure => go_light; have h1 := HIK.out; have h2 := HIN.out; omega
              case rel => exact ⟨i + 1, by go_num, by have h1 := HIK.out; have h2 := HIN.out; go_light; omega, by have h2 := HIN.out; go_light; omega, CF.out⟩
            · subst hk
              have e1 : ((q : Int) == 1) = true := beq_iff_eq.mpr (by omega)
              have e2 : decide ((q : Int) = 1) = true := decide_eq_true (by omega)
              clear hL
              go_wp2_with fail
              go_roundg (g0 - 1)
              case measure => go_light; have h1 := HIK.out; have h2 := HIN.out; omega
              case rel => exact ⟨i + 1, by go_num, by have h1 := HIK.out; have h2 := HIN.out; go_light; omega, by have h2 := HIN.out; go_light; omega, CF.out⟩
            · subst hk
              have e1 : ((q : Int) == 1) = true := beq_iff_eq.mpr (by omega)
              have e2 : decide ((q : Int) = 1) = true := decide_eq_true (by omega)
              clear hL
              go_wp2_with fail
              go_roundg (g0 - 1)
              case measure => go_light; have h1 := HIK.out; have h2 := HIN.out; omega
              case rel => exact ⟨i + 1, by go_num, by have h1 := HIK.out; have h2 := HIN.out; go_light; omega, by have h2 := HIN.out; go_light; omega, CF.out⟩
            · subst hk
              have e1 : ((q : Int) == 1) = true := beq_iff_eq.mpr (by omega)
              have e2 : decide ((q : Int) = 1) = true := decide_eq_true (by omega)
              clear hL
              go_wp2_with fail
              go_roundg (g0 - 1)
              case measure => go_light; have h1 := HIK.out; have h2 := HIN.out; omega
              case rel => exact ⟨i + 1, by go_num, by have h1 := HIK.out; have h2 := HIN.out; go_light; omega, by have h2 := HIN.out; go_light; omega, CF.out⟩
            · subst hk
              have e1 : ((q : Int) == 1) = true := beq_iff_eq.mpr (by omega)
              have e2 : decide ((q : Int) = 1) = true := decide_eq_true (by omega)
              clear hL
              go_wp2_with fail
              go_roundg (g0 - 1)
              case measure => go_light; have h1 := HIK.out; have h2 := HIN.out; omega
              case rel => exact ⟨i + 1, by go_num, by have h1 := HIK.out; have h2 := HIN.out; go_light; omega, by have h2 := HIN.out; go_light; omega, CF.out⟩
            · subst hk
              have e1 : ((q : Int) == 1) = true := beq_iff_eq.mpr (by omega)
              have e2 : decide ((q : Int) = 1) = true := decide_eq_true (by omega)
              clear hL
              go_wp2_with fail
              go_roundg (g0 - 1)
              case measure => go_light; have h1 := HIK.out; have h2 := HIN.out; omega
              case rel => exact ⟨i + 1, by go_num, by have h1 := HIK.out; have h2 := HIN.out; go_light; omega, by have h2 := HIN.out; go_light; omega, CF.out⟩
            · subst hk
              have e1 : ((q : Int) == 1) = true := beq_iff_eq.mpr (by omega)
              have e2 : decide ((q : Int) = 1) = true := decide_eq_true (by omega)
              clear hL
              go_wp2_with fail
              go_roundg (g0 - 1)
              case measure => go_light; have h1 := HIK.out; have h2 := HIN.out; omega
              case rel => exact ⟨i + 1, by go_num, by have h1 := HIK.out; have h2 := HIN.out; go_light; omega, by have h2 := HIN.out; go_light; omega, CF.out⟩
            · subst hk
              have e1 : ((q : Int) == 1) = true := beq_iff_eq.mpr (by omega)
              have e2 : decide ((q : Int) = 1) = true := decide_eq_true (by omega)
              clear hL
              go_wp2_with fail
              go_roundg (g0 - 1)
              case measure => go_light; have h1 := HIK.out; have h2 := HIN.out; omega
              case rel => exact ⟨i + 1, by go_num, by have h1 := HIK.out; have h2 := HIN.out; go_light; omega, by have h2 := HIN.out; go_light; omega, CF.out⟩
            · subst hk
              have e1 : ((q : Int) == 1) = true := beq_iff_eq.mpr (by omega)
              have e2 : decide ((q : Int) = 1) = true := decide_eq_true (by omega)
              clear hL
              go_wp2_with fail
              go_roundg (g0 - 1)
              case measure => go_light; have h1 := HIK.out; have h2 := HIN.out; omega
              case rel => exact ⟨i + 1, by go_num, by have h1 := HIK.out; have h2 := HIN.out; go_light; omega, by have h2 := HIN.out; go_light; omega, CF.out⟩
            · subst hk
              have e1 : ((q : Int) == 1) = true := beq_iff_eq.mpr (by omega)
              have e2 : decide ((q : Int) = 1) = true := decide_eq_true (by omega)
              clear hL
              go_wp2_with fail
              go_roundg (g0 - 1)
              case measure => go_light; have h1 := HIK.out; have h2 := HIN.out; omega
              case rel => exact ⟨i + 1, by go_num, by have h1 := HIK.out; have h2 := HIN.out; go_light; omega, by have h2 := HIN.out; go_light; omega, CF.out⟩
            · subst hk
              have e1 : ((q : Int) == 2) = true := beq_iff_eq.mpr (by omega)
              have e2 : decide ((q : Int) = 2) = true := decide_eq_true (by omega)
              clear hL
              go_wp2_with fail
              go_roundg (g0 - 1)
              case measure => go_light; have h1 := HIK.out; have h2 := HIN.out; omega
              case rel => exact ⟨i + 1, by go_num, by have h1 := HIK.out; have h2 := HIN.out; go_light; omega, by have h2 := HIN.out; go_light; omega, CF.out⟩
            · subst hk
              have e1 : ((q : Int) == 2) = true := beq_iff_eq.mpr (by omega)
              have e2 : decide ((q : Int) = 2) = true := decide_eq_true (by omega)
              clear hL
              go_wp2_with fail
              go_roundg (g0 - 1)
              case measure => go_light; have h1 := HIK.out; have h2 := HIN.out; omega
              case rel => exact ⟨i + 1, by go_num, by have h1 := HIK.out; have h2 := HIN.out; go_light; omega, by have h2 := HIN.out; go_light; omega, CF.out⟩
            · subst hk
              have e1 : ((q : Int) == 2) = true := beq_iff_eq.mpr (by omega)
              have e2 : decide ((q : Int) = 2) = true := decide_eq_true (by omega)
              clear hL
              go_wp2_with fail
              go_roundg (g0 - 1)
              case measure => go_light; have h1 := HIK.out; have h2 := HIN.out; omega
              case rel => exact ⟨i + 1, by go_num, by have h1 := HIK.out; have h2 := HIN.out; go_light; omega, by have h2 := HIN.out; go_light; omega, CF.out⟩
            · subst hk
              have e1 : ((q : Int) == 2) = true := beq_iff_eq.mpr (by omega)
              have e2 : decide ((q : Int) = 2) = true := decide_eq_true (by omega)
              clear hL
              go_wp2_with fail
              go_roundg (g0 - 1)
              case measure => go_light; have h1 := HIK.out; have h2 := HIN.out; omega
              case rel => exact ⟨i + 1, by go_num, by have h1 := HIK.out; have h2 := HIN.out; go_light; omega, by have h2 := HIN.out; go_light; omega, CF.out⟩
            · subst hk
              have e3 : ¬ (q : Int) = 2 := by omega
              have e4 : ((q : Int) == 2) = false := by simp; omega
              have e5 : decide ((q : Int) = 2) = false := decide_eq_false e3
              have e1 : ((q : Int) == 3) = true := beq_iff_eq.mpr (by omega)
              have e2 : decide ((q : Int) = 3) = true := decide_eq_true (by omega)
              clear hL
              go_wp2_with fail
              go_roundg (g0 - 1)
              case measure => go_light; have h1 := HIK.out; have h2 := HIN.out; omega
              case rel => exact ⟨i + 1, by go_num, by have h1 := HIK.out; have h2 := HIN.out; go_light; omega, by have h2 := HIN.out; go_light; omega, CF.out⟩
            · subst hk
              have e3 : (q : Int) ≤ 1 := by omega
              have e2 : decide ((q : Int) ≤ 1) = true := decide_eq_true e3
              clear hL
              go_wp2_with fail
              go_roundg (g0 - 1)
              case measure => go_light; have h1 := HIK.out; have h2 := HIN.out; omega
              case rel => exact ⟨i + 1, by go_num, by have h1 := HIK.out; have h2 := HIN.out; go_light; omega, by have h2 := HIN.out; go_light; omega, CF.out⟩
            · subst hk
              go_wp2_with fail
              go_roundg (g0 - 1)
              case measure => go_light; have h1 := HIK.out; have h2 := HIN.out; omega
              case rel => exact ⟨i + 1, by go_num, by have h1 := HIK.out; have h2 := HIN.out; go_light; omega, by have h2 := HIN.out; go_light; omega, CF.out⟩
            · subst hk
              go_wp2_with fail
              go_roundg (g0 - 1)
              case measure => go_light; have h1 := HIK.out; have h2 := HIN.out; omega
              case rel => exact ⟨i + 1, by go_num, by have h1 := HIK.out; have h2 := HIN.out; go_light; omega, by have h2 := HIN.out; go_light; omega, CF.out⟩
      · obtain rfl : i = m := by omega
        have hinI : ¬ (i : Int) < (i : Int) := by omega
        have hd : decide ((i : Int) < (i : Int)) = false := decide_eq_false hinI
        have CM := Lib.hid (show Cnt w3 V i (nd.flatMap Nd.l ++ (fs.take 0).map Fnc.body) wo from by
          have h := cr
          rw [show nd.take i = nd by rw [HM.out, List.take_length]] at h
          simpa using h)
        clear hin hik cr
        go_wp2_with fail
        clear z0 z1 hd hinI
        go_loopg [14, 15] (k + 1) (fun g s14 s15 wr => ∃ p : Nat, s14 = .int .i64 p ∧ p + g = k + 1 ∧ p ≤ k ∧ Cnt w3 V i (nd.flatMap Nd.l ++ (fs.take p).map Fnc.body) wr)
        case atStart => exact ⟨0, rfl, by omega, by omega, CM.out⟩
        case round =>
          obtain ⟨p, rfl, hpk, hple, cp⟩ := hrel
          obtain ⟨g1, hg1⟩ : ∃ g1, g1 = gk := ⟨_, rfl⟩
          subst hg1
          have CP := Lib.hid cp
          have HPK := Lib.hid hpk
          have z0 := (ZX.out.keeps cp.k).cells 0 _ rfl
          have z1 := (ZX.out.keeps cp.k).cells 1 _ rfl
          by_cases hp : p < k
          · have hpI : (p : Int) < (k : Int) := by omega
            have hd : decide ((p : Int) < (k : Int)) = true := decide_eq_true hpI
            have hp0 : (0 : Int) ≤ (p : Int) := by omega
            have hk1 := HK3.out
            have hi1 := HM3.out
            have hw := IntWalk.i64_in ((p : Int) + 1) (by omega)
            have up : ∀ {b o : Nat} {v : Value}, w3.cell? ⟨b, o, none⟩ = some v → wr.cell? ⟨b, o, none⟩ = some v := fun hc => (cp.k.cell (cell_ltk hc) (fun h => h)).trans hc
            have hp2 : p < fs.length := by rw [← HK.out]; exact hp
            obtain ⟨j, mm, hj, hnj, hmk⟩ := HD.out.bods fs[p] (List.getElem_mem hp2)
            have hji : j < i := by rw [HM.out]; exact (List.getElem?_eq_some_iff.mp hnj).1
            obtain ⟨b3, o3, rfl, h3⟩ := HT0.out.fnAt (by omega)
            obtain ⟨_, _, -, -, -, -, f4, -⟩ := h3 p hp2
            replace f4 := up f4
            rw [hj] at f4
            obtain ⟨b1, o1, rfl, h1⟩ := HT0.out.nodeAt (by rw [← HM.out]; omega)
            obtain ⟨_, _, y0, -⟩ := h1 j (by rw [← HM.out]; exact hji)
            have e : nd[j]'(by rw [← HM.out]; exact hji) = mm := (List.getElem?_eq_some_iff.mp hnj).2
            rw [e, hmk] at y0
            replace y0 := up y0
            have hjI : (j : Int) < (i : Int) := by omega
            have hj0 : (0 : Int) ≤ (j : Int) := by omega
            have d1 : ¬ (j : Int) < 0 := by omega
            have d1' : decide ((j : Int) < 0) = false := decide_eq_false d1
            have d2 : ¬ (i : Int) ≤ (j : Int) := by omega
            have d2' : decide ((i : Int) ≤ (j : Int)) = false := decide_eq_false d2
            have v0 := cp.row.cells j _ (tmV_at hji)
            have vf := cp.row.fz j
            have hcb : (nd.flatMap Nd.l ++ (fs.take p).map Fnc.body).count (j : Int) ≤ 1 := by
              have h4 := HD.out.ones j (by rw [← HM.out]; exact hji)
              have h5 := ((List.take_sublist p fs).map Fnc.body).count_le (j : Int)
              rw [List.count_append]
              omega
            have CN2 := Lib.hid (cp.set HV.out hji)
            have HTK : Hid ((nd.flatMap Nd.l ++ (fs.take p).map Fnc.body) ++ [(j : Int)] = nd.flatMap Nd.l ++ (fs.take (p + 1)).map Fnc.body) := Lib.hid (by
              rw [List.append_assoc, List.take_add_one, List.getElem?_eq_getElem hp2, List.map_append]
              show _ = _ ++ (_ ++ [fs[p].body])
              rw [hj])
            generalize (nd.flatMap Nd.l ++ (fs.take p).map Fnc.body) = acc at v0 hcb CN2 HTK
            generalize acc.count (j : Int) = cc at v0 hcb CN2
            have hwc := IntWalk.i64_in ((cc : Int) + 1) (by omega)
            have HP := Lib.hid hp
            clear h1 h3 up hp2 hp hnj hmk e hj hji hpk cp
            go_wp2_with fail
            go_roundg (g1 - 1)
            case measure => go_light; have h1 := HPK.out; have h2 := HP.out; omega
            case rel => exact ⟨p + 1, by go_num, by have h1 := HPK.out; have h2 := HP.out; go_light; omega, by have h2 := HP.out; go_light; omega, by rw [← HTK.out]; exact CN2.out⟩
          · obtain rfl : p = k := by omega
            have hpI : ¬ (p : Int) < (p : Int) := by omega
            have hd : decide ((p : Int) < (p : Int)) = false := decide_eq_false hpI
            have CE := Lib.hid (show Cnt w3 V i (nd.flatMap Nd.l ++ fs.map Fnc.body) wr from by
              have h := cp
              rwa [show fs.take p = fs by rw [HK.out, List.take_length]] at h)
            clear hp hpk cp
            go_wp2_with fail
            clear z0 z1 hd hpI
            go_loopg [16] (i + 1) (fun g s16 wr => ∃ x : Nat, s16 = .int .i64 x ∧ x + g = i + 1 ∧ x ≤ i ∧ Cnt w3 V i (nd.flatMap Nd.l ++ fs.map Fnc.body) wr)
            case atStart => exact ⟨0, rfl, by omega, by omega, CE.out⟩
            case round =>
              obtain ⟨x, rfl, hxk, hxle, cx⟩ := hrel
              have CX := Lib.hid cx
              have HXK := Lib.hid hxk
              by_cases hx : x < i
              · have hxI : (x : Int) < (i : Int) := by omega
                have hd : decide ((x : Int) < (i : Int)) = true := decide_eq_true hxI
                have hx0 : (0 : Int) ≤ (x : Int) := by omega
                have hi1 := HM3.out
                have hw := IntWalk.i64_in ((x : Int) + 1) (by omega)
                have v0 := cx.row.cells x _ (tmV_at hx)
                rw [List.count_append, HD.out.ones x (by rw [← HM.out]; exact hx)] at v0
                have v0 : wr.cell? ⟨V, x, none⟩ = some (.int .i64 1) := v0
                have HX := Lib.hid hx
                clear hx hxk cx
                go_wp2_with fail
                go_roundg (gk - 1)
                case measure => go_light; have h1 := HXK.out; have h2 := HX.out; omega
                case rel => exact ⟨x + 1, by go_num, by have h1 := HXK.out; have h2 := HX.out; go_light; omega, by have h2 := HX.out; go_light; omega, CX.out⟩
              · obtain rfl : x = i := by omega
                have hxI : ¬ (x : Int) < (x : Int) := by omega
                have hd : decide ((x : Int) < (x : Int)) = false := decide_eq_false hxI
                clear hx hxk cx
                go_wp2_with fail
                go_ret
                exact ⟨rfl, KA.out.trans CX.out.k (fun _ _ h => h)⟩
end Go.Proofs.YtgelggdgbmldiaaDoor
