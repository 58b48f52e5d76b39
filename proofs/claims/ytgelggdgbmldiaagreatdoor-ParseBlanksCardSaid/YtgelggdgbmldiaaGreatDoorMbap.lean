/-
  Layer 2: Same, of two trees that are the same. Written by an AI agent.
  Layer 2: the nodes that the program's parser makes stand as they should. Written by an AI agent.
  Layer 2: what ParseBelow asks of the nodes, as data. Written by an AI agent.
-/
import Derived.Test.YtgelggdgbmldiaaGreatDoorMbao
import Derived.Deep.LoopGhost
import Derived.Deep.Light
import Derived.Test.YtgelggdgbmldiaaGreatDoorMbaf
import Derived.Test.YtgelggdgbmldiaaGreatDoorMbaa
namespace Go.Proofs.YtgelggdgbmldiaaGreatDoor
open Go Go.RowKit Go.Shelf
set_option linter.unusedVariables false
set_option linter.unusedSimpArgs false

theorem flatP_at (L : List (List UInt8 × Int)) (i j : Nat) (hi : i < L.length) (hj : j < 2) : (flatP L)[i * 2 + j]? = some ((PmV (L[i])).getD j undef) := by
  induction L generalizing i with
  | nil => exact absurd hi (Nat.not_lt_zero _)
  | cons a L ih =>
    show (PmV a ++ flatP L)[i * 2 + j]? = _
    cases i with
    | zero =>
      rw [List.getElem?_append_left (by show 0 * 2 + j < 2; omega), Nat.zero_mul, Nat.zero_add]
      match j, hj with
      | 0, _ => rfl
      | 1, _ => rfl
    | succ i =>
      rw [List.getElem?_append_right (by show 2 ≤ _; omega), show (i + 1) * 2 + j - (PmV a).length = i * 2 + j by show _ - 2 = _; omega]
      exact ih i (by simpa using hi)

set_option maxRecDepth 100000 in
set_option maxHeartbeats 16000000 in
theorem same_any (A A' B B' : Option Addr) (c c' d d' m k : Nat) (nd : List Nd) (fs : List Fnc) (w : World) (hx : TreeR 0 w A A' nd fs) (hy : TreeR 0 w B B' nd fs) (hm : m = nd.length) (hk : k = fs.length) (hl : m ≤ 1000000 ∧ ∀ x ∈ nd, x.l.length ≤ 1000000) (hk2 : k ≤ 1000000) (hp : ∀ x ∈ fs, x.ps.length ≤ 1000000) :
    Calls Tryz.prog 10 #[.agg #[.slice A m c, .slice A' k c'], .agg #[.slice B m d, .slice B' k d']] w fun e w' => e = .returned (.bool true) ∧ Keeps (fun _ => False) w w' := by
  have HX := Lib.hid hx
  have HY := Lib.hid hy
  have HM := Lib.hid hm
  have HK := Lib.hid hk
  have HL := Lib.hid hl
  have HL2 := Lib.hid hk2
  have HPS := Lib.hid hp
  clear hx hy hm hk hl hk2 hp
  go_enter Tryz.func10, Tryz.ntmps10
  go_upto_region 1 with fail
  have z1 := Loc.new (w := w) (R := fun _ => False) (fun h => h) [.slice A m c, .slice A' k c'] 27
  have k1 := Keeps.one w (.cells #[.slice A m c, .slice A' k c'] 27)
  obtain ⟨X1, hX1⟩ : ∃ X1, X1 = w.heap.size := ⟨_, rfl⟩
  have z2 := Loc.new (w := w.alloc (.cells #[.slice A m c, .slice A' k c'] 27)) (R := fun _ => False) (fun h => h) [.slice B m d, .slice B' k d'] 27
  have k2 := Keeps.one (w.alloc (.cells #[.slice A m c, .slice A' k c'] 27)) (.cells #[.slice B m d, .slice B' k d'] 27)
  have hX2 : (w.alloc (.cells #[.slice A m c, .slice A' k c'] 27)).heap.size = X1 + 1 := by rw [World.size_alloc, hX1]
  obtain ⟨w2, hw⟩ : ∃ w2, w2 = (w.alloc (.cells #[.slice A m c, .slice A' k c'] 27)).alloc (.cells #[.slice B m d, .slice B' k d'] 27) := ⟨_, rfl⟩
  have Z1 : Hid (Loc w2 (fun _ => False) X1 [.slice A m c, .slice A' k c']) := Lib.hid (by rw [hw, hX1]; exact z1.keeps k2)
  have Z2 : Hid (Loc w2 (fun _ => False) (X1 + 1) [.slice B m d, .slice B' k d']) := Lib.hid (by rw [hw, ← hX2]; exact z2)
  have KK : Hid (Keeps (fun _ => False) w w2) := Lib.hid (by rw [hw]; exact k1.trans k2 (fun _ _ h => h))
  rw [← hX1]
  rw [← hw]
  clear z1 z2 k1 k2 hX2 hw hX1
  have zA := Z1.out.cells 0 _ rfl
  have zA' := Z1.out.cells 1 _ rfl
  have zB := Z2.out.cells 0 _ rfl
  have zB' := Z2.out.cells 1 _ rfl
  go_wp2_with fail
  clear zA zA' zB zB'
  go_loopg [5, 6, 7, 8] (m + 1) (fun g s5 s6 s7 s8 wr => ∃ i : Nat, s5 = .int .i64 i ∧ i + g = m + 1 ∧ i ≤ m ∧ Keeps (fun _ => False) w2 wr)
  case atStart => exact ⟨0, rfl, by omega, by omega, Keeps.refl _ _⟩
  case round =>
    obtain ⟨i, rfl, hik, hle, kr⟩ := hrel
    have KR := Lib.hid kr
    have HIK := Lib.hid hik
    have zA := (Z1.out.keeps kr).cells 0 _ rfl
    have zA' := (Z1.out.keeps kr).cells 1 _ rfl
    have zB := (Z2.out.keeps kr).cells 0 _ rfl
    have zB' := (Z2.out.keeps kr).cells 1 _ rfl
    by_cases hin : i < m
    · have hinI : (i : Int) < (m : Int) := by omega
      have hd : decide ((i : Int) < (m : Int)) = true := decide_eq_true hinI
      have hi0 : (0 : Int) ≤ (i : Int) := by omega
      have hm1 : m ≤ 1000000 := HL.out.1
      have hw := IntWalk.i64_in ((i : Int) + 1) (by omega)
      have KT := KK.out.trans KR.out (fun _ _ h => h)
      obtain ⟨b1, o1, rfl, h1⟩ := (HX.out.keep KT).nodeAt (by rw [← HM.out]; omega)
      obtain ⟨b2, o2, rfl, h2⟩ := (HY.out.keep KT).nodeAt (by rw [← HM.out]; omega)
      obtain ⟨a1, q1, n0, n1, n2, n3, n4, nr⟩ := h1 i (by rw [← HM.out]; exact hin)
      obtain ⟨a2, q2, p0, p1, p2, p3, p4, pr⟩ := h2 i (by rw [← HM.out]; exact hin)
      obtain ⟨nl, hnl⟩ : ∃ nl, nl = (nd[i]'(by rw [← HM.out]; exact hin)).l := ⟨_, rfl⟩
      have hnl2 : nl.length ≤ 1000000 := by rw [hnl]; exact HL.out.2 _ (List.getElem_mem _)
      rw [← hnl] at n4 nr p4 pr
      generalize (nd[i]'(by rw [← HM.out]; exact hin)).k = e0 at n0 p0
      generalize (nd[i]'(by rw [← HM.out]; exact hin)).ln = e1 at n1 p1
      generalize (nd[i]'(by rw [← HM.out]; exact hin)).n = e2 at n2 p2
      generalize ofL (nd[i]'(by rw [← HM.out]; exact hin)).s = e3 at n3 p3
      obtain ⟨nn, hnn⟩ : ∃ nn, nn = nl.length := ⟨_, rfl⟩
      rw [← hnn] at n4 p4
      have HNN := Lib.hid hnn
      have IC : Hid (∀ wq, Keeps (fun _ => False) wr wq → Calls Tryz.prog 19 #[.slice a1 nn q1, .slice a2 nn q2] wq fun e w' => e = .returned (.bool true) ∧ Keeps (fun _ => False) wq w') := Lib.hid fun wq kq => ints_any a1 a2 q1 q2 nn nl HNN.out (by rw [HNN.out]; exact hnl2) wq (nr.up kq) (pr.up kq)
      have HIN := Lib.hid hin
      clear h1 h2 kr hik hin hnl hnn hnl2 nr pr KT
      have ka := Keeps.one wr (.cells #[.int .i64 e0, .int .i64 e1, .int .i64 e2, .string e3, .slice a1 nn q1] 42)
      have up : ∀ {b o : Nat} {v : Value}, wr.cell? ⟨b, o, none⟩ = some v → (wr.alloc (.cells #[.int .i64 e0, .int .i64 e1, .int .i64 e2, .string e3, .slice a1 nn q1] 42)).cell? ⟨b, o, none⟩ = some v := fun hc => (ka.cell (cell_ltk hc) (fun h => h)).trans hc
      have zx := Loc.new (w := wr) (R := fun _ => False) (fun h => h) [.int .i64 e0, .int .i64 e1, .int .i64 e2, .string e3, .slice a1 nn q1] 42
      go_upto_region 7 with fail
      obtain ⟨U, hU⟩ : ∃ U, U = wr.heap.size := ⟨_, rfl⟩
      obtain ⟨w3, hw3⟩ : ∃ w3, w3 = wr.alloc (.cells #[.int .i64 e0, .int .i64 e1, .int .i64 e2, .string e3, .slice a1 nn q1] 42) := ⟨_, rfl⟩
      have zx : Loc w3 (fun _ => False) U [.int .i64 e0, .int .i64 e1, .int .i64 e2, .string e3, .slice a1 nn q1] := by rw [hw3, hU]; exact zx
      rw [← hU]
      rw [← hw3] at ka up ⊢
      have zA := up zA
      have zA' := up zA'
      have zB := up zB
      have zB' := up zB'
      have p0 := up p0
      have p1 := up p1
      have p2 := up p2
      have p3 := up p3
      have p4 := up p4
      have KA := Lib.hid ka
      have ZX := Lib.hid zx
      clear hw3 hU zx up n0 n1 n2 n3 n4 ka
      have kb := Keeps.one w3 (.cells #[.int .i64 e0, .int .i64 e1, .int .i64 e2, .string e3, .slice a2 nn q2] 42)
      have zy := Loc.new (w := w3) (R := fun _ => False) (fun h => h) [.int .i64 e0, .int .i64 e1, .int .i64 e2, .string e3, .slice a2 nn q2] 42
      go_upto_region 8 with fail
      obtain ⟨V, hV⟩ : ∃ V, V = w3.heap.size := ⟨_, rfl⟩
      obtain ⟨w4, hw4⟩ : ∃ w4, w4 = w3.alloc (.cells #[.int .i64 e0, .int .i64 e1, .int .i64 e2, .string e3, .slice a2 nn q2] 42) := ⟨_, rfl⟩
      have zy : Loc w4 (fun _ => False) V [.int .i64 e0, .int .i64 e1, .int .i64 e2, .string e3, .slice a2 nn q2] := by rw [hw4, hV]; exact zy
      rw [← hV]
      rw [← hw4] at kb ⊢
      have KB := Lib.hid (KA.out.trans kb (fun _ _ h => h))
      have ZX4 := Lib.hid (ZX.out.keeps kb)
      have ZY := Lib.hid zy
      clear hw4 hV zy zA zA' zB zB' p0 p1 p2 p3 p4 kb ZX
      have x4 := ZX4.out.cells 4 _ rfl
      have y4 := ZY.out.cells 4 _ rfl
      have CI := Lib.hid (IC.out _ KB.out)
      clear IC
      go_wp2_with fail
      refine CI.out.mono ?_
      rintro e w5 ⟨rfl, k5⟩
      have zx5 := ZX4.out.keeps k5
      have zy5 := ZY.out.keeps k5
      have x0 := zx5.cells 0 _ rfl
      have x1 := zx5.cells 1 _ rfl
      have x2 := zx5.cells 2 _ rfl
      have x3 := zx5.cells 3 _ rfl
      have y0 := zy5.cells 0 _ rfl
      have y1 := zy5.cells 1 _ rfl
      have y2 := zy5.cells 2 _ rfl
      have y3 := zy5.cells 3 _ rfl
      have K5 := Lib.hid ((KR.out.trans KB.out (fun _ _ h => h)).trans k5 (fun _ _ h => h))
      clear CI zx5 zy5 k5 x4 y4
      go_wp2_with fail
      go_roundg (gk - 1)
      case measure => go_light; have h1 := HIK.out; have h2 := HIN.out; omega
      case rel => exact ⟨i + 1, by go_num, by have h1 := HIK.out; have h2 := HIN.out; go_light; omega, by have h2 := HIN.out; go_light; omega, K5.out⟩
    · obtain rfl : i = m := by omega
      have hinI : ¬ (i : Int) < (i : Int) := by omega
      have hd : decide ((i : Int) < (i : Int)) = false := decide_eq_false hinI
      clear hin hik kr
      go_wp2_with fail
      clear zA zA' zB zB' hd hinI
      go_loopg [9, 10, 11, 12] (k + 1) (fun g s9 s10 s11 s12 wr => ∃ i : Nat, s9 = .int .i64 i ∧ i + g = k + 1 ∧ i ≤ k ∧ Keeps (fun _ => False) w2 wr)
      case atStart => exact ⟨0, rfl, by omega, by omega, KR.out⟩
      case round =>
        obtain ⟨i, rfl, hik, hle, kr⟩ := hrel
        have KR2 := Lib.hid kr
        have HIK2 := Lib.hid hik
        have zA := (Z1.out.keeps kr).cells 0 _ rfl
        have zA' := (Z1.out.keeps kr).cells 1 _ rfl
        have zB := (Z2.out.keeps kr).cells 0 _ rfl
        have zB' := (Z2.out.keeps kr).cells 1 _ rfl
        obtain ⟨g0, hg0⟩ : ∃ g0, g0 = gk := ⟨_, rfl⟩
        subst hg0
        by_cases hin : i < k
        · have hinI : (i : Int) < (k : Int) := by omega
          have hd : decide ((i : Int) < (k : Int)) = true := decide_eq_true hinI
          have hi0 : (0 : Int) ≤ (i : Int) := by omega
          have hm1 := HL2.out
          have hw := IntWalk.i64_in ((i : Int) + 1) (by omega)
          have KT := KK.out.trans KR2.out (fun _ _ h => h)
          obtain ⟨b1, o1, rfl, h1⟩ := (HX.out.keep KT).fnAt (by rw [← HK.out]; omega)
          obtain ⟨b2, o2, rfl, h2⟩ := (HY.out.keep KT).fnAt (by rw [← HK.out]; omega)
          obtain ⟨a1, q1, n0, n1, n2, n3, n4, nr⟩ := h1 i (by rw [← HK.out]; exact hin)
          obtain ⟨a2, q2, p0, p1, p2, p3, p4, pr⟩ := h2 i (by rw [← HK.out]; exact hin)
          obtain ⟨nl, hnl⟩ : ∃ nl, nl = (fs[i]'(by rw [← HK.out]; exact hin)).ps := ⟨_, rfl⟩
          have hnl2 : nl.length ≤ 1000000 := by rw [hnl]; exact HPS.out _ (List.getElem_mem _)
          rw [← hnl] at n2 nr p2 pr
          generalize ofL (fs[i]'(by rw [← HK.out]; exact hin)).s = e0 at n0 p0
          generalize (fs[i]'(by rw [← HK.out]; exact hin)).ln = e1 at n1 p1
          generalize (fs[i]'(by rw [← HK.out]; exact hin)).ret = e3 at n3 p3
          generalize (fs[i]'(by rw [← HK.out]; exact hin)).body = e4 at n4 p4
          obtain ⟨nn, hnn⟩ : ∃ nn, nn = nl.length := ⟨_, rfl⟩
          rw [← hnn] at n2 p2 hnl2
          have HNN := Lib.hid hnn
          have HNR := Lib.hid nr
          have HPR := Lib.hid pr
          have HIN := Lib.hid hin
          clear h1 h2 kr hik hin hnl hnn nr pr KT
          have ka := Keeps.one wr (.cells #[.string e0, .int .i64 e1, .slice a1 nn q1, .int .i64 e3, .int .i64 e4] 45)
          have up : ∀ {b o : Nat} {v : Value}, wr.cell? ⟨b, o, none⟩ = some v → (wr.alloc (.cells #[.string e0, .int .i64 e1, .slice a1 nn q1, .int .i64 e3, .int .i64 e4] 45)).cell? ⟨b, o, none⟩ = some v := fun hc => (ka.cell (cell_ltk hc) (fun h => h)).trans hc
          have zx := Loc.new (w := wr) (R := fun _ => False) (fun h => h) [.string e0, .int .i64 e1, .slice a1 nn q1, .int .i64 e3, .int .i64 e4] 45
          go_upto_region 15 with fail
          obtain ⟨U, hU⟩ : ∃ U, U = wr.heap.size := ⟨_, rfl⟩
          obtain ⟨w3, hw3⟩ : ∃ w3, w3 = wr.alloc (.cells #[.string e0, .int .i64 e1, .slice a1 nn q1, .int .i64 e3, .int .i64 e4] 45) := ⟨_, rfl⟩
          have zx : Loc w3 (fun _ => False) U [.string e0, .int .i64 e1, .slice a1 nn q1, .int .i64 e3, .int .i64 e4] := by rw [hw3, hU]; exact zx
          rw [← hU]
          rw [← hw3] at ka up ⊢
          have zA := up zA
          have zA' := up zA'
          have zB := up zB
          have zB' := up zB'
          have p0 := up p0
          have p1 := up p1
          have p2 := up p2
          have p3 := up p3
          have p4 := up p4
          have KA := Lib.hid ka
          have ZX := Lib.hid zx
          clear hw3 hU zx up n0 n1 n2 n3 n4 ka
          have kb := Keeps.one w3 (.cells #[.string e0, .int .i64 e1, .slice a2 nn q2, .int .i64 e3, .int .i64 e4] 45)
          have zy := Loc.new (w := w3) (R := fun _ => False) (fun h => h) [.string e0, .int .i64 e1, .slice a2 nn q2, .int .i64 e3, .int .i64 e4] 45
          go_upto_region 16 with fail
          obtain ⟨V, hV⟩ : ∃ V, V = w3.heap.size := ⟨_, rfl⟩
          obtain ⟨w4, hw4⟩ : ∃ w4, w4 = w3.alloc (.cells #[.string e0, .int .i64 e1, .slice a2 nn q2, .int .i64 e3, .int .i64 e4] 45) := ⟨_, rfl⟩
          have zy : Loc w4 (fun _ => False) V [.string e0, .int .i64 e1, .slice a2 nn q2, .int .i64 e3, .int .i64 e4] := by rw [hw4, hV]; exact zy
          rw [← hV]
          rw [← hw4] at kb ⊢
          have KB := Lib.hid (KA.out.trans kb (fun _ _ h => h))
          have ZX4 := Lib.hid (ZX.out.keeps kb)
          have ZY := Lib.hid zy
          have HNR4 := Lib.hid (HNR.out.up KB.out)
          have HPR4 := Lib.hid (HPR.out.up KB.out)
          clear hw4 hV zy zA zA' zB zB' p0 p1 p2 p3 p4 kb ZX HNR HPR
          have x0 := ZX4.out.cells 0 _ rfl
          have x1 := ZX4.out.cells 1 _ rfl
          have x2 := ZX4.out.cells 2 _ rfl
          have x3 := ZX4.out.cells 3 _ rfl
          have x4 := ZX4.out.cells 4 _ rfl
          have y0 := ZY.out.cells 0 _ rfl
          have y1 := ZY.out.cells 1 _ rfl
          have y2 := ZY.out.cells 2 _ rfl
          have y3 := ZY.out.cells 3 _ rfl
          have y4 := ZY.out.cells 4 _ rfl
          go_wp2_with fail
          clear x0 x1 x2 x3 x4 y0 y1 y2 y3 y4
          go_loopg [12] (nn + 1) (fun g s12 wr => ∃ j : Nat, s12 = .int .i64 j ∧ j + g = nn + 1 ∧ j ≤ nn ∧ Keeps (fun _ => False) w4 wr)
          case atStart => exact ⟨0, rfl, by omega, by omega, Keeps.refl _ _⟩
          case round =>
            obtain ⟨j, rfl, hjk, hjle, kj⟩ := hrel
            have KJ := Lib.hid kj
            have HJK := Lib.hid hjk
            have x2 := (ZX4.out.keeps kj).cells 2 _ rfl
            have y2 := (ZY.out.keeps kj).cells 2 _ rfl
            by_cases hjn : j < nn
            · have hjnI : (j : Int) < (nn : Int) := by omega
              have hdj : decide ((j : Int) < (nn : Int)) = true := decide_eq_true hjnI
              have hj0 : (0 : Int) ≤ (j : Int) := by omega
              have hwj := IntWalk.i64_in ((j : Int) + 1) (by omega)
              have hj2 : j < nl.length := by rw [← HNN.out]; exact hjn
              obtain ⟨bb1, oo1, rfl, c1⟩ := (HNR4.out.up kj) (by rw [flatP_length]; omega)
              obtain ⟨bb2, oo2, rfl, c2⟩ := (HPR4.out.up kj) (by rw [flatP_length]; omega)
              have r0 := c1 (j * 2 + 0) _ (flatP_at nl j 0 hj2 (by omega))
              have r1 := c1 (j * 2 + 1) _ (flatP_at nl j 1 hj2 (by omega))
              have s0 := c2 (j * 2 + 0) _ (flatP_at nl j 0 hj2 (by omega))
              have s1 := c2 (j * 2 + 1) _ (flatP_at nl j 1 hj2 (by omega))
              rw [show oo1 + (j * 2 + 0) = oo1 + j * 2 by omega] at r0
              rw [show oo1 + (j * 2 + 1) = oo1 + j * 2 + 1 by omega] at r1
              rw [show oo2 + (j * 2 + 0) = oo2 + j * 2 by omega] at s0
              rw [show oo2 + (j * 2 + 1) = oo2 + j * 2 + 1 by omega] at s1
              obtain ⟨ps, hps⟩ : ∃ ps, ps = ofL (nl[j]).1 := ⟨_, rfl⟩
              obtain ⟨pt, hpt⟩ : ∃ pt, pt = (nl[j]).2 := ⟨_, rfl⟩
              have t0 : wr.cell? ⟨bb1, oo1 + j * 2, none⟩ = some (.string ps) := by rw [hps]; exact r0
              have t1 : wr.cell? ⟨bb1, oo1 + j * 2 + 1, none⟩ = some (.int .i64 pt) := by rw [hpt]; exact r1
              have t2 : wr.cell? ⟨bb2, oo2 + j * 2, none⟩ = some (.string ps) := by rw [hps]; exact s0
              have t3 : wr.cell? ⟨bb2, oo2 + j * 2 + 1, none⟩ = some (.int .i64 pt) := by rw [hpt]; exact s1
              have gg := guard_param
              have qq : ∀ w : World, (binOp .neq 58 (.agg #[.string ps, .int .i64 pt]) (.agg #[.string ps, .int .i64 pt])).run Tryz.prog w = .ok (.bool false) w := fun w => by rw [neq_param]; simp
              have HJN := Lib.hid hjn
              clear c1 c2 kj hjk hjn hps hpt r0 r1 s0 s1 hj2
              go_wp2_with fail
              go_quiet (fail)
              go_wp2_with fail
              go_roundg (gk - 1)
              case measure => go_light; have h1 := HJK.out; have h2 := HJN.out; omega
              case rel => exact ⟨j + 1, by go_num, by have h1 := HJK.out; have h2 := HJN.out; go_light; omega, by have h2 := HJN.out; go_light; omega, KJ.out.trans (drew_keeps _ _) (fun _ _ h => h)⟩
            · obtain rfl : j = nn := by omega
              have hjnI : ¬ (j : Int) < (j : Int) := by omega
              have hdj : decide ((j : Int) < (j : Int)) = false := decide_eq_false hjnI
              have K6 := Lib.hid ((KR2.out.trans KB.out (fun _ _ h => h)).trans KJ.out (fun _ _ h => h))
              clear hjn hjk kj
              go_wp2_with fail
              go_roundg (g0 - 1)
              case measure => go_light; have h1 := HIK2.out; have h2 := HIN.out; omega
              case rel => exact ⟨i + 1, by go_num, by have h1 := HIK2.out; have h2 := HIN.out; go_light; omega, by have h2 := HIN.out; go_light; omega, K6.out⟩
        · obtain rfl : i = k := by omega
          have hinI : ¬ (i : Int) < (i : Int) := by omega
          have hd : decide ((i : Int) < (i : Int)) = false := decide_eq_false hinI
          have K7 := Lib.hid (KK.out.trans KR2.out (fun _ _ h => h))
          clear hin hik kr
          go_wp2_with fail
          go_ret
          exact ⟨rfl, K7.out⟩

end Go.Proofs.YtgelggdgbmldiaaGreatDoor

namespace Go.Proofs.YtgelggdgbmldiaaGreatDoor
set_option linter.unusedVariables false
set_option linter.unusedSimpArgs false

def Part {α : Type} (m : PM α) (s : PS) (Q : α → PS → Prop) : Prop := ∀ a s', m s = some (a, s') → Q a s'
theorem Part.bind {α β : Type} {m : PM α} {f : α → PM β} {s : PS} {R : α → PS → Prop} {Q : β → PS → Prop} (h : Part m s R) (h2 : ∀ a s', R a s' → Part (f a) s' Q) : Part (m >>= f) s Q := by
  intro b s2 hb
  obtain ⟨a, s1, h1, h3⟩ := bind_out hb
  exact h2 a s1 (h a s1 h1) b s2 h3
theorem Part.pure {α : Type} {a : α} {s : PS} {Q : α → PS → Prop} (h : Q a s) : Part (pure a) s Q := by
  intro b s2 hb
  have := pure_out hb
  cases this
  exact h
theorem Part.none {α : Type} {s : PS} {Q : α → PS → Prop} : Part (fun _ => none) s Q := by
  intro b s2 hb
  cases hb
theorem Part.ask {α β : Type} {g : PS → α} {f : α → PM β} {s : PS} {Q : β → PS → Prop} (h : Part (f (g s)) s Q) : Part (ask g >>= f) s Q :=
  Part.bind (R := fun a s' => a = g s ∧ s' = s) (by intro a s' h; cases h; exact ⟨rfl, rfl⟩) (by rintro a s' ⟨rfl, rfl⟩; exact h)
theorem Part.mod {β : Type} {g : PS → PS} {f : Unit → PM β} {s : PS} {Q : β → PS → Prop} (h : Part (f ()) (g s) Q) : Part (mod g >>= f) s Q :=
  Part.bind (R := fun a s' => s' = g s) (by intro a s' h; cases h; rfl) (by rintro a s' rfl; exact h)
theorem Part.mono {α : Type} {m : PM α} {s : PS} {Q R : α → PS → Prop} (h : Part m s Q) (k : ∀ a s', Q a s' → R a s') : Part m s R :=
  fun a s' he => k a s' (h a s' he)

/-- How many are below a node of a kind. -/
def manyK (k : Int) (n : Nat) : Bool :=
  (decide (k = 1 ∨ k = 2 ∨ k = 3 ∨ k = 4 ∨ k = 19) && decide (n = 0)) || (decide (k = 5 ∨ k = 6 ∨ k = 7 ∨ k = 8 ∨ k = 10 ∨ k = 11 ∨ k = 13 ∨ k = 14 ∨ k = 20) && decide (n = 1)) ||
  (decide (k = 9 ∨ k = 12 ∨ k = 16) && decide (n = 2)) || (decide (k = 15) && decide (n = 2 ∨ n = 3)) || (decide (k = 17) && decide (n ≤ 1)) || decide (k = 18 ∨ k = 21)

/-- Nodes from a place on, and which of them have none above. -/
inductive Fo : Nat → List Nd → List Int → Prop
  | nil (b : Nat) : Fo b [] []
  | cat {b : Nat} {nd nd' : List Nd} {xs ys : List Int} : Fo b nd xs → Fo (b + nd.length) nd' ys → Fo b (nd ++ nd') (xs ++ ys)
  | node {b : Nat} {nd : List Nd} (n : Nd) : Fo b nd n.l → (∀ m ∈ nd, n.ln ≤ m.ln) → manyK n.k n.l.length = true → Fo b (nd ++ [n]) [((b + nd.length : Nat) : Int)]

section
variable (src : List UInt8) (T : List Tok)
/-- Lines rise. -/
def LnT : Prop := 0 < T.length ∧ ∀ i j, i ≤ j → j < T.length → lineL src ((T.getD i default).p : Int) ≤ lineL src ((T.getD j default).p : Int)

def G (s0 : PS) (xs : List Int) (s : PS) : Prop :=
  s0.i ≤ s.i ∧ s.i < T.length ∧ ∃ nd, s.nd = s0.nd ++ nd ∧ Fo s0.nd.length nd xs ∧ ∀ m ∈ nd, lineS src T s0 ≤ m.ln

variable {src T}
theorem G.self {s : PS} (h : s.i < T.length) : G src T s [] s :=
  ⟨Nat.le_refl _, h, [], (List.append_nil _).symm, Fo.nil _, fun m hm => by cases hm⟩
theorem G.of {s0 s s' : PS} {xs : List Int} (h : G src T s0 xs s) (h1 : s'.nd = s.nd) (h2 : s.i ≤ s'.i) (h3 : s'.i < T.length) : G src T s0 xs s' := by
  obtain ⟨a, b, nd, c⟩ := h
  exact ⟨Nat.le_trans a h2, h3, nd, by rw [h1]; exact c⟩
theorem G.cat (hL : LnT src T) {s0 s s' : PS} {xs ys : List Int} (h : G src T s0 xs s) (h' : G src T s ys s') : G src T s0 (xs ++ ys) s' := by
  obtain ⟨a, b, nd, c, d, e⟩ := h
  obtain ⟨a', b', nd', c', d', e'⟩ := h'
  refine ⟨Nat.le_trans a a', b', nd ++ nd', by rw [c', c, List.append_assoc], d.cat (by rw [← List.length_append, ← c]; exact d'), ?_⟩
  intro m hm
  rcases List.mem_append.mp hm with h | h
  · exact e m h
  · have h1 := e' m h
    have h2 := hL.2 s0.i s.i a b
    have h3 : lineS src T s0 ≤ lineS src T s := by
      unfold lineS tokA
      exact Int.ofNat_le.mpr h2
    exact Int.le_trans h3 h1
theorem G.node {s0 s : PS} {xs : List Int} (h : G src T s0 xs s) (n : Nd) (hln : n.ln = lineS src T s0) (hk : manyK n.k xs.length = true) :
    Part (nodeM n xs) s (fun x s' => G src T s0 [x] s' ∧ (s'.nd.getD x.toNat ⟨0, 0, 0, [], []⟩).k = n.k ∧ 0 ≤ x) := by
  intro x s' hx
  unfold nodeM at hx
  split at hx
  · cases hx
    obtain ⟨a, b, nd, c, d, e⟩ := h
    refine ⟨⟨a, b, nd ++ [{ n with l := xs }], ?_, ?_, ?_⟩, ?_, Int.natCast_nonneg _⟩
    · show s.nd ++ _ = _
      rw [c, List.append_assoc]
    · have h2 := Fo.node (b := s0.nd.length) (nd := nd) { n with l := xs } d (fun m hm => by show n.ln ≤ _; rw [hln]; exact e m hm) hk
      have h3 : s.nd.length = s0.nd.length + nd.length := by rw [c, List.length_append]
      rw [h3]
      exact h2
    · intro m hm
      rcases List.mem_append.mp hm with h | h
      · exact e m h
      · rw [List.mem_singleton.mp h]
        exact Int.le_of_eq hln.symm
    · show ((s.nd ++ [_]).getD (Int.toNat (s.nd.length : Int)) _).k = _
      rw [Int.toNat_natCast, List.getD_eq_getElem?_getD, List.getElem?_append_right (Nat.le_refl _), Nat.sub_self]
      rfl
  · cases hx

theorem G.next {s0 s : PS} {xs : List Int} (h : G src T s0 xs s) : G src T s0 xs (nextS T s) := by
  unfold nextS
  split
  · exact h.of rfl (Nat.le_succ _) (by show s.i + 1 < _; omega)
  · exact h
theorem G.fail {s0 s : PS} {xs : List Int} (h : G src T s0 xs s) (e : Nat) : G src T s0 xs (failS T e s) := by
  unfold failS
  have := h.2.1
  split
  · exact h.of rfl (by show s.i ≤ T.length - 1; omega) (by show T.length - 1 < _; omega)
  · exact h
theorem G.want {s0 s : PS} {xs : List Int} (h : G src T s0 xs s) (x : List UInt8) : G src T s0 xs (wantS T x s) := by
  unfold wantS
  split
  · exact h.next
  · exact h.fail 20
theorem G.name {s0 s : PS} {xs : List Int} (h : G src T s0 xs s) : G src T s0 xs (nameS T s) := by
  unfold nameS
  split
  · exact h.next
  · exact h.fail 20
theorem G.deep {s0 s : PS} {xs : List Int} (h : G src T s0 xs s) (d : Int) : Part (deepS d) s (fun _ s' => G src T s0 xs s') := by
  intro x s' hx
  unfold deepS at hx
  split at hx
  · cases hx
    exact h.of rfl (Nat.le_refl _) h.2.1
  · cases hx
theorem G.open {s0 s : PS} {xs : List Int} (h : G src T s0 xs s) (x : List UInt8) : Part (openM T x) s (fun _ s' => G src T s0 xs s') := by
  unfold openM
  refine Part.mod ?_
  refine G.deep ?_ 1
  unfold openS
  refine G.want ?_ x
  split
  · exact h.fail 21
  · exact h
theorem G.shut {s0 s : PS} {xs : List Int} (h : G src T s0 xs s) (x : List UInt8) : Part (shutM T x) s (fun _ s' => G src T s0 xs s') := by
  unfold shutM
  exact Part.mod (G.deep (h.want x) (-1))
end
end Go.Proofs.YtgelggdgbmldiaaGreatDoor

/-! Each part of it. -/
namespace Go.Proofs.YtgelggdgbmldiaaGreatDoor
set_option linter.unusedVariables false
set_option linter.unusedSimpArgs false

section
variable {src : List UInt8} {T : List Tok}
def ExP (src : List UInt8) (T : List Tok) (ex : PM Int) : Prop := ∀ s, s.i < T.length → Part ex s (fun x s' => G src T s [x] s')
theorem ExP.on (hL : LnT src T) {ex : PM Int} (h : ExP src T ex) {s0 s : PS} {xs : List Int} (g : G src T s0 xs s) : Part ex s (fun x s' => G src T s0 (xs ++ [x]) s') :=
  (h s g.2.1).mono fun x s' g' => g.cat hL g'
theorem G.nd1 {s0 s : PS} {xs : List Int} (h : G src T s0 xs s) (n : Nd) (hln : n.ln = lineS src T s0) (hk : manyK n.k xs.length = true) : Part (nodeM n xs) s (fun x s' => G src T s0 [x] s') :=
  (h.node n hln hk).mono fun _ _ h => h.1

theorem inside_p (hL : LnT src T) {ex : PM Int} (hx : ExP src T ex) {a b : List UInt8} {s0 s : PS} {xs : List Int} (g : G src T s0 xs s) : Part (insideM T ex a b) s (fun x s' => G src T s0 (xs ++ [x]) s') := by
  unfold insideM
  refine Part.bind (g.open a) ?_
  intro _ s1 g1
  refine Part.bind (hx.on hL g1) ?_
  intro x s2 g2
  refine Part.bind (g2.shut b) ?_
  intro _ s3 g3
  exact Part.pure g3
theorem variable_p (hL : LnT src T) {ex : PM Int} (hx : ExP src T ex) {s : PS} (hs : s.i < T.length) : Part (variableM T ex (lineS src T s)) s (fun x s' => G src T s [x] s') := by
  unfold variableM
  refine Part.ask ?_
  refine Part.mod ?_
  refine Part.ask ?_
  have g := (G.self (src := src) hs).name
  split
  · refine Part.bind (inside_p hL hx g) ?_
    intro y s2 g2
    exact g2.nd1 _ rfl rfl
  · exact g.nd1 _ rfl rfl
theorem atom_p (hL : LnT src T) {ex : PM Int} (hx : ExP src T ex) : ExP src T (atomM src T ex) := by
  intro s hs
  have g := G.self (src := src) hs
  unfold atomM
  refine Part.ask ?_
  refine Part.ask ?_
  split
  · exact Part.mod (g.next.nd1 _ rfl rfl)
  split
  · exact Part.mod (g.next.nd1 _ rfl rfl)
  refine Part.ask ?_
  split
  · exact Part.mod (g.next.nd1 _ rfl rfl)
  refine Part.ask ?_
  split
  · refine Part.mod ?_
    refine Part.bind (inside_p hL hx g.next) ?_
    intro y s2 g2
    exact g2.nd1 _ rfl rfl
  refine Part.ask ?_
  split
  · exact inside_p hL hx g
  · exact variable_p hL hx hs
theorem factor_p (hL : LnT src T) {fac ex : PM Int} (hf : ExP src T fac) (hx : ExP src T ex) : ExP src T (factorM src T fac ex) := by
  intro s hs
  have g := G.self (src := src) hs
  unfold factorM
  refine Part.ask ?_
  refine Part.ask ?_
  refine Part.ask ?_
  split
  · refine Part.bind (g.open _) ?_
    intro _ s1 g1
    refine Part.bind (hf.on hL g1) ?_
    intro x s2 g2
    refine Part.bind (g2.deep _) ?_
    intro _ s3 g3
    exact g3.nd1 _ rfl rfl
  refine Part.ask ?_
  split
  · refine Part.bind (g.open _) ?_
    intro _ s1 g1
    refine Part.bind (hf.on hL g1) ?_
    intro x s2 g2
    refine Part.bind (g2.deep _) ?_
    intro _ s3 g3
    exact g3.nd1 _ rfl rfl
  · exact atom_p hL hx s hs
theorem chain_p (hL : LnT src T) {lv : Nat} {sub : PM Int} (hsub : ExP src T sub) {s0 : PS} : ∀ n (x : Int) s, G src T s0 [x] s → Part (chainR T lv sub (lineS src T s0) n x) s (fun x s' => G src T s0 [x] s') := by
  intro n
  induction n with
  | zero => intro x s _; exact Part.none
  | succ n ih =>
    intro x s g
    unfold chainR
    refine Part.ask ?_
    split
    · refine Part.ask ?_
      refine Part.mod ?_
      refine Part.bind (hsub.on hL g.next) ?_
      intro y s2 g2
      refine Part.bind (g2.nd1 _ rfl rfl) ?_
      intro z s3 g3
      split
      · exact Part.pure g3
      · exact ih z s3 g3
    · exact Part.pure g
theorem ex_p (hL : LnT src T) : ∀ n lv, ExP src T (exM src T n lv) := by
  intro n
  induction n with
  | zero => intro lv s hs; exact Part.none
  | succ n ih =>
    intro lv s hs
    unfold exM
    split
    · exact factor_p hL (ih 5) (ih 0) s hs
    · refine Part.ask ?_
      refine Part.bind (ih (lv + 1) s hs) ?_
      intro x s1 g1
      exact chain_p hL (ih (lv + 1)) n x s1 g1

theorem comma_p (hL : LnT src T) {ex : PM Int} (hx : ExP src T ex) {s0 : PS} : ∀ n (l : List Int) s, G src T s0 l s → Part (commaR T ex n l) s (fun l s' => G src T s0 l s') := by
  intro n
  induction n with
  | zero => intro x s _; exact Part.none
  | succ n ih =>
    intro l s g
    unfold commaR
    refine Part.ask ?_
    split
    · refine Part.mod ?_
      refine Part.bind (hx.on hL g.next) ?_
      intro y s2 g2
      exact ih _ s2 g2
    · exact Part.pure g
theorem args_p (hL : LnT src T) {ex : PM Int} (hx : ExP src T ex) {N : Nat} {s0 s : PS} (g : G src T s0 [] s) : Part (argsM T N ex) s (fun l s' => G src T s0 l s') := by
  unfold argsM
  refine Part.ask ?_
  split
  · exact Part.pure g
  · refine Part.bind (hx.on hL g) ?_
    intro y s2 g2
    exact comma_p hL hx N _ s2 g2
theorem many_any {k : Int} (h : k = 18 ∨ k = 21) (n : Nat) : manyK k n = true := by
  rcases h with rfl | rfl <;> simp [manyK]
theorem call_p (hL : LnT src T) {ex : PM Int} (hx : ExP src T ex) {N : Nat} : ExP src T (callM src T N ex) := by
  intro s hs
  have g := G.self (src := src) hs
  unfold callM
  refine Part.ask ?_
  refine Part.ask ?_
  refine Part.mod ?_
  refine Part.mod ?_
  refine Part.bind (args_p hL hx (g.name.want [40])) ?_
  intro l s1 g1
  refine Part.mod ?_
  exact (g1.want [41]).nd1 _ rfl (many_any (.inr rfl) _)
theorem right_p (hL : LnT src T) {ex : PM Int} (hx : ExP src T ex) {N : Nat} : ExP src T (rightM src T N ex) := by
  intro s hs
  have g := G.self (src := src) hs
  unfold rightM
  refine Part.ask ?_
  refine Part.ask ?_
  split
  · exact Part.mod (g.next.nd1 _ rfl rfl)
  refine Part.ask ?_
  split
  · refine Part.mod ?_
    refine Part.mod ?_
    refine Part.bind (hx.on hL (g.next.want [40])) ?_
    intro x s2 g2
    refine Part.mod ?_
    exact (g2.want [41]).nd1 _ rfl rfl
  refine Part.ask ?_
  split
  · exact call_p hL hx s hs
  · exact hx s hs
theorem ended_p {s0 s : PS} {xs : List Int} (g : G src T s0 xs s) (n : Nd) (hln : n.ln = lineS src T s0) (hk : manyK n.k xs.length = true) : Part (endedM T n xs) s (fun x s' => G src T s0 [x] s') := by
  unfold endedM
  exact Part.mod ((g.want [59]).nd1 _ hln hk)
theorem change_p (hL : LnT src T) {ex : PM Int} (hx : ExP src T ex) {N : Nat} {s : PS} (hs : s.i < T.length) : Part (changeM src T N ex (lineS src T s)) s (fun x s' => G src T s [x] s') := by
  have g := G.self (src := src) hs
  unfold changeM
  refine Part.ask ?_
  refine Part.mod ?_
  refine Part.ask ?_
  split
  · refine Part.bind (g.name.open _) ?_
    intro _ s1 g1
    refine Part.bind (hx.on hL g1) ?_
    intro y s2 g2
    refine Part.bind (g2.shut _) ?_
    intro _ s3 g3
    refine Part.mod ?_
    refine Part.bind (hx.on hL (g3.want [61])) ?_
    intro z s4 g4
    exact ended_p g4 _ rfl rfl
  · refine Part.mod ?_
    refine Part.bind ((right_p hL hx).on hL (g.name.want [61])) ?_
    intro z s4 g4
    exact ended_p g4 _ rfl rfl
theorem choice_p (hL : LnT src T) {ex bl : PM Int} (hx : ExP src T ex) (hb : ExP src T bl) {s : PS} (hs : s.i < T.length) : Part (choiceM T ex bl (lineS src T s)) s (fun x s' => G src T s [x] s') := by
  have g := G.self (src := src) hs
  unfold choiceM
  refine Part.mod ?_
  refine Part.bind (hx.on hL g.next) ?_
  intro x s1 g1
  refine Part.bind (hb.on hL g1) ?_
  intro y s2 g2
  refine Part.ask ?_
  split
  · refine Part.mod ?_
    refine Part.bind (hb.on hL g2.next) ?_
    intro z s3 g3
    exact g3.nd1 _ rfl rfl
  · exact g2.nd1 _ rfl rfl
theorem statement_p (hL : LnT src T) {ex bl : PM Int} (hx : ExP src T ex) (hb : ExP src T bl) {N : Nat} : ExP src T (statementM src T N ex bl) := by
  intro s hs
  have g := G.self (src := src) hs
  unfold statementM
  refine Part.ask ?_
  refine Part.ask ?_
  split
  · exact choice_p hL hx hb hs
  refine Part.ask ?_
  split
  · refine Part.mod ?_
    refine Part.bind (hx.on hL g.next) ?_
    intro x s1 g1
    refine Part.bind (hb.on hL g1) ?_
    intro y s2 g2
    exact g2.nd1 _ rfl rfl
  refine Part.ask ?_
  split
  · refine Part.bind (call_p hL hx s hs) ?_
    intro x s1 g1
    exact ended_p g1 _ rfl rfl
  refine Part.ask ?_
  split
  · refine Part.mod ?_
    refine Part.bind (hx.on hL g.next) ?_
    intro x s1 g1
    exact ended_p g1 _ rfl rfl
  refine Part.ask ?_
  split
  · refine Part.mod ?_
    refine Part.ask ?_
    split
    · exact ended_p g.next _ rfl rfl
    · refine Part.bind (hx.on hL g.next) ?_
      intro x s1 g1
      exact ended_p g1 _ rfl rfl
  refine Part.ask ?_
  split
  · refine Part.mod ?_
    refine Part.ask ?_
    refine Part.mod ?_
    refine Part.mod ?_
    refine Part.bind ((right_p hL hx).on hL (g.next.name.want [61])) ?_
    intro x s1 g1
    exact ended_p g1 _ rfl rfl
  · exact change_p hL hx hs
theorem stms_p (hL : LnT src T) {st : PM Int} (hst : ExP src T st) {s0 : PS} : ∀ n (l : List Int) s, G src T s0 l s → Part (stmsR T st n l) s (fun l s' => G src T s0 l s') := by
  intro n
  induction n with
  | zero => intro x s _; exact Part.none
  | succ n ih =>
    intro l s g
    unfold stmsR
    refine Part.ask ?_
    split
    · refine Part.bind (hst.on hL g) ?_
      intro y s2 g2
      exact ih _ s2 g2
    · exact Part.pure g
theorem block_p (hL : LnT src T) {st : PM Int} (hst : ExP src T st) {N : Nat} {s : PS} (hs : s.i < T.length) : Part (blockM src T N st) s (fun x s' => G src T s [x] s' ∧ (s'.nd.getD x.toNat ⟨0, 0, 0, [], []⟩).k = 18 ∧ 0 ≤ x) := by
  have g := G.self (src := src) hs
  unfold blockM
  refine Part.ask ?_
  refine Part.bind (g.open _) ?_
  intro _ s1 g1
  refine Part.bind (stms_p hL hst N [] s1 g1) ?_
  intro l s2 g2
  refine Part.bind (g2.shut _) ?_
  intro _ s3 g3
  exact g3.node _ rfl (many_any (.inl rfl) _)
theorem st_p (hL : LnT src T) {N : Nat} : ∀ n, ExP src T (stM src T N n) := by
  intro n
  induction n with
  | zero => intro s hs; exact Part.none
  | succ n ih =>
    unfold stM
    exact statement_p hL (ex_p hL N 0) (fun s hs => (block_p hL ih hs).mono fun _ _ h => h.1)

theorem kind_p {s0 s : PS} {xs : List Int} (g : G src T s0 xs s) : Part (kindM T) s (fun _ s' => G src T s0 xs s') := by
  unfold kindM
  refine Part.ask ?_
  split
  · refine Part.ask ?_
    refine Part.mod ?_
    exact Part.pure g.next
  · refine Part.mod ?_
    exact Part.pure (g.fail 20)
theorem param_p {s0 s : PS} {xs : List Int} (g : G src T s0 xs s) : Part (paramM T) s (fun _ s' => G src T s0 xs s') := by
  unfold paramM
  refine Part.ask ?_
  refine Part.mod ?_
  refine Part.bind (kind_p g.name) ?_
  intro t s1 g1
  exact Part.pure g1
theorem paramsR_p {s0 : PS} {xs : List Int} : ∀ n (l : List (List UInt8 × Int)) s, G src T s0 xs s → Part (paramsR T n l) s (fun _ s' => G src T s0 xs s') := by
  intro n
  induction n with
  | zero => intro x s _; exact Part.none
  | succ n ih =>
    intro l s g
    unfold paramsR
    refine Part.ask ?_
    split
    · refine Part.mod ?_
      refine Part.bind (param_p g.next) ?_
      intro y s2 g2
      exact ih _ s2 g2
    · exact Part.pure g
theorem params_p {N : Nat} {s0 s : PS} {xs : List Int} (g : G src T s0 xs s) : Part (paramsM T N) s (fun _ s' => G src T s0 xs s') := by
  unfold paramsM
  refine Part.ask ?_
  split
  · exact Part.pure g
  · refine Part.bind (param_p g) ?_
    intro y s2 g2
    exact paramsR_p N _ s2 g2
theorem ret_p {s0 s : PS} {xs : List Int} (g : G src T s0 xs s) : Part (retM T) s (fun _ s' => G src T s0 xs s') := by
  unfold retM
  refine Part.ask ?_
  split
  · exact Part.pure g
  · exact kind_p g

def Bod (s : PS) (x : Int) : Prop := (s.nd.getD x.toNat ⟨0, 0, 0, [], []⟩).k = 18 ∧ 0 ≤ x
theorem function_p (hL : LnT src T) {N : Nat} {s0 s : PS} {xs : List Int} (g : G src T s0 xs s) : Part (functionM src T N) s (fun f s' => G src T s0 (xs ++ [f.body]) s' ∧ Bod s' f.body) := by
  unfold functionM
  refine Part.ask ?_
  refine Part.mod ?_
  refine Part.ask ?_
  refine Part.mod ?_
  refine Part.mod ?_
  refine Part.bind (params_p ((g.want [102, 110]).name.want [40])) ?_
  intro ps s1 g1
  refine Part.mod ?_
  refine Part.bind (ret_p (g1.want [41])) ?_
  intro r s2 g2
  refine Part.bind (block_p hL (st_p hL N) g2.2.1) ?_
  rintro y s3 ⟨g3, g4, g5⟩
  exact Part.pure ⟨g2.cat hL g3, g4, g5⟩
theorem Bod.up {s s' : PS} {x : Int} (h : Bod s x) (hx : ∃ nd, s'.nd = s.nd ++ nd) : Bod s' x := by
  obtain ⟨nd, hn⟩ := hx
  refine ⟨?_, h.2⟩
  have h1 := h.1
  by_cases hl : x.toNat < s.nd.length
  · rw [hn, List.getD_eq_getElem?_getD, List.getElem?_append_left hl, ← List.getD_eq_getElem?_getD]
    exact h1
  · exfalso
    rw [List.getD_eq_getElem?_getD, List.getElem?_eq_none (by omega)] at h1
    exact absurd h1 (by decide)
theorem fns_p (hL : LnT src T) {N : Nat} {s0 : PS} : ∀ n (l : List Fnc) s, G src T s0 (l.map Fnc.body) s → (∀ f ∈ l, Bod s f.body) → Part (fnsR src T N n l) s (fun l s' => G src T s0 (l.map Fnc.body) s' ∧ ∀ f ∈ l, Bod s' f.body) := by
  intro n
  induction n with
  | zero => intro x s _ _; exact Part.none
  | succ n ih =>
    intro l s g hb
    unfold fnsR
    refine Part.ask ?_
    split
    · have hf := function_p hL (N := N) (G.self (src := src) g.2.1)
      refine Part.bind hf ?_
      rintro y s2 ⟨g2, h2⟩
      refine ih _ s2 (by rw [List.map_append]; exact g.cat hL g2) ?_
      intro f hf
      rcases List.mem_append.mp hf with h | h
      · obtain ⟨_, _, nd, hn, _⟩ := g2
        exact (hb f h).up ⟨nd, hn⟩
      · rw [List.mem_singleton.mp h]
        exact h2
    · exact Part.pure ⟨g, hb⟩
end
end Go.Proofs.YtgelggdgbmldiaaGreatDoor

namespace Go.Proofs.YtgelggdgbmldiaaGreatDoor
set_option linter.unusedVariables false
set_option linter.unusedSimpArgs false

theorem Fo.roots {b : Nat} {nd : List Nd} {xs : List Int} (h : Fo b nd xs) : xs.Pairwise (· < ·) ∧ ∀ x ∈ xs, ∃ j : Nat, x = ((b + j : Nat) : Int) ∧ j < nd.length := by
  induction h with
  | nil b => exact ⟨List.Pairwise.nil, fun x hx => by cases hx⟩
  | cat h1 h2 ih1 ih2 =>
    rename_i b nd nd' xs ys
    refine ⟨List.pairwise_append.mpr ⟨ih1.1, ih2.1, ?_⟩, ?_⟩
    · intro x hx y hy
      obtain ⟨j, rfl, hj⟩ := ih1.2 x hx
      obtain ⟨k, rfl, hk⟩ := ih2.2 y hy
      omega
    · intro x hx
      rw [List.length_append]
      rcases List.mem_append.mp hx with h | h
      · obtain ⟨j, e, hj⟩ := ih1.2 x h
        exact ⟨j, e, by omega⟩
      · obtain ⟨j, e, hj⟩ := ih2.2 x h
        exact ⟨nd.length + j, by rw [e]; omega, by omega⟩
  | node n h1 h2 h3 ih =>
    rename_i b nd
    refine ⟨List.pairwise_singleton _ _, ?_⟩
    intro x hx
    rw [List.mem_singleton.mp hx]
    exact ⟨nd.length, rfl, by rw [List.length_append]; exact Nat.lt_succ_self _⟩

/-- A node and what is below it. -/
def Kid (b : Nat) (nd : List Nd) (i : Nat) (n : Nd) : Prop :=
  manyK n.k n.l.length = true ∧ n.l.Pairwise (· < ·) ∧ ∀ x ∈ n.l, ∃ (j : Nat) (m : Nd), x = ((b + j : Nat) : Int) ∧ j < i ∧ nd[j]? = some m ∧ n.ln ≤ m.ln
theorem Fo.kids {b : Nat} {nd : List Nd} {xs : List Int} (h : Fo b nd xs) : ∀ i n, nd[i]? = some n → Kid b nd i n := by
  induction h with
  | nil b => intro i n hn; simp at hn
  | cat h1 h2 ih1 ih2 =>
    rename_i b nd nd' xs ys
    intro i n hn
    by_cases hi : i < nd.length
    · rw [List.getElem?_append_left hi] at hn
      obtain ⟨k1, k2, k3⟩ := ih1 i n hn
      refine ⟨k1, k2, fun x hx => ?_⟩
      obtain ⟨j, m, e, hj, hm, hl⟩ := k3 x hx
      exact ⟨j, m, e, hj, by rw [List.getElem?_append_left (by omega)]; exact hm, hl⟩
    · rw [List.getElem?_append_right (by omega)] at hn
      obtain ⟨k1, k2, k3⟩ := ih2 (i - nd.length) n hn
      refine ⟨k1, k2, fun x hx => ?_⟩
      obtain ⟨j, m, e, hj, hm, hl⟩ := k3 x hx
      exact ⟨nd.length + j, m, by rw [e]; omega, by omega, by rw [List.getElem?_append_right (by omega), Nat.add_sub_cancel_left]; exact hm, hl⟩
  | node n h1 h2 h3 ih =>
    rename_i b nd
    intro i n' hn
    by_cases hi : i < nd.length
    · rw [List.getElem?_append_left hi] at hn
      obtain ⟨k1, k2, k3⟩ := ih i n' hn
      refine ⟨k1, k2, fun x hx => ?_⟩
      obtain ⟨j, m, e, hj, hm, hl⟩ := k3 x hx
      exact ⟨j, m, e, hj, by rw [List.getElem?_append_left (by omega)]; exact hm, hl⟩
    · have hi2 : i = nd.length := by
        have := (List.getElem?_eq_some_iff.mp hn).1
        rw [List.length_append] at this
        have h1 : [n].length = 1 := rfl
        omega
      subst hi2
      rw [List.getElem?_append_right (Nat.le_refl _), Nat.sub_self] at hn
      obtain rfl : n = n' := Option.some.inj hn
      refine ⟨h3, h1.roots.1, fun x hx => ?_⟩
      obtain ⟨j, e, hj⟩ := h1.roots.2 x hx
      exact ⟨j, nd[j], e, hj, by rw [List.getElem?_append_left hj]; exact List.getElem?_eq_getElem hj, h2 _ (List.getElem_mem hj)⟩

theorem Fo.count {b : Nat} {nd : List Nd} {xs : List Int} (h : Fo b nd xs) (v : Int) : (nd.flatMap Nd.l).count v + xs.count v = if (b : Int) ≤ v ∧ v < (b : Int) + nd.length then 1 else 0 := by
  induction h with
  | nil b => rw [if_neg (by rintro ⟨h1, h2⟩; simp at h2; omega)]; rfl
  | cat h1 h2 ih1 ih2 =>
    rename_i b nd nd' xs ys
    rw [List.flatMap_append, List.count_append, List.count_append, List.length_append]
    rw [Int.natCast_add] at ih2 ⊢
    by_cases c1 : (b : Int) ≤ v ∧ v < (b : Int) + nd.length
    · rw [if_pos c1] at ih1
      rw [if_neg (by omega)] at ih2
      rw [if_pos (by omega)]
      omega
    · rw [if_neg c1] at ih1
      by_cases c2 : (b : Int) + nd.length ≤ v ∧ v < (b : Int) + nd.length + nd'.length
      · rw [if_pos c2] at ih2
        rw [if_pos (by omega)]
        omega
      · rw [if_neg c2] at ih2
        rw [if_neg (by omega)]
        omega
  | node n h1 h2 h3 ih =>
    rename_i b nd
    have hf : ([n].flatMap Nd.l) = n.l := by simp
    rw [List.flatMap_append, List.count_append, hf, ih, List.length_append]
    have h0 : [n].length = 1 := rfl
    rw [h0]
    by_cases hv : v = ((b + nd.length : Nat) : Int)
    · rw [if_neg (by omega), if_pos (by omega), hv]
      simp
    · rw [List.count_eq_zero_of_not_mem (by simpa using hv)]
      by_cases c : (b : Int) ≤ v ∧ v < (b : Int) + nd.length
      · rw [if_pos c, if_pos (by omega)]
      · rw [if_neg c, if_neg (by omega)]

theorem line_up (l : List UInt8) (a : Int) (k : Nat) : lineL l a ≤ lineL l (a + k) := by
  induction k with
  | zero => exact Nat.le_of_eq (by rw [show a + ((0 : Nat) : Int) = a by omega])
  | succ k ih =>
    rw [show a + ((k + 1 : Nat) : Int) = a + k + 1 by omega, line_next]
    omega
theorem pl_up (s : List UInt8) : ∀ (T : List Tok) (e : Nat), Pl s e T → ∀ i j, i ≤ j → j < T.length → e ≤ (T.getD i default).p ∧ (T.getD i default).p ≤ (T.getD j default).p := by
  intro T
  induction T with
  | nil => intro e h; exact absurd h (fun h => h)
  | cons t ts ih =>
    intro e h i j hij hj
    obtain ⟨h1, h2, h3, h4⟩ := h
    rcases h4 with ⟨rfl, rfl⟩ | ⟨hne, _, _, _, h8⟩
    · have : j = 0 := by simp at hj; exact hj
      subst this
      obtain rfl : i = 0 := by omega
      exact ⟨h1, Nat.le_refl _⟩
    · cases j with
      | zero =>
        obtain rfl : i = 0 := by omega
        exact ⟨h1, Nat.le_refl _⟩
      | succ j =>
        rw [List.length_cons] at hj
        cases i with
        | zero =>
          have := ih _ h8 0 j (Nat.zero_le _) (by omega)
          exact ⟨h1, by show t.p ≤ (ts.getD j default).p; omega⟩
        | succ i =>
          have := ih _ h8 i j (by omega) (by omega)
          exact ⟨by show e ≤ (ts.getD i default).p; omega, this.2⟩
theorem lexL_LnT (src : List UInt8) (h : (lexL src 0).2 = none) : LnT src (lexL src 0).1 := by
  have hp := lexL_places src src 0 0 rfl (Nat.zero_le _) (Nat.le_refl _) (by simpa using gap_nil) h
  refine ⟨List.length_pos_iff.mpr (lexL_ne src 0 h), ?_⟩
  intro i j hij hj
  obtain ⟨h1, h2⟩ := pl_up src _ 0 hp i j hij hj
  have h3 := line_up src ((((lexL src 0).1.getD i default).p : Nat) : Int) (((lexL src 0).1.getD j default).p - ((lexL src 0).1.getD i default).p)
  rwa [show ((((lexL src 0).1.getD i default).p : Nat) : Int) + (((((lexL src 0).1.getD j default).p - ((lexL src 0).1.getD i default).p : Nat)) : Int) = ((((lexL src 0).1.getD j default).p : Nat) : Int) by omega] at h3

/-- What ParseBelow asks of a tree. -/
structure BelowT (nd : List Nd) (fs : List Fnc) : Prop where
  kids : ∀ i n, nd[i]? = some n → Kid 0 nd i n
  bods : ∀ f ∈ fs, ∃ (j : Nat) (m : Nd), f.body = (j : Int) ∧ nd[j]? = some m ∧ m.k = 18
  ones : ∀ j : Nat, j < nd.length → (nd.flatMap Nd.l).count (j : Int) + (fs.map Fnc.body).count (j : Int) = 1
  many : nd.length ≤ 300
  fns : fs.length ≤ 6

theorem belowT_of (N : Nat) (src : List UInt8) (nd : List Nd) (fs : List Fnc) (h : allP N src = some (.inr (nd, fs))) : BelowT nd fs := by
  unfold allP at h
  split at h
  · cases h
  split at h
  · cases h
  rename_i hn
  have hL := lexL_LnT src hn
  cases hr : fnsR src (lexL src 0).1 N N [] ⟨0, 0, 0, [], 0⟩ with
  | none => rw [hr] at h; cases h
  | some r =>
    rw [hr] at h
    obtain ⟨l, s⟩ := r
    have h1 : treeP l s = .inr (nd, fs) := Option.some.inj h
    obtain ⟨g, hb⟩ := fns_p hL (N := N) (s0 := ⟨0, 0, 0, [], 0⟩) N [] ⟨0, 0, 0, [], 0⟩ (G.self hL.1) (fun f hf => by cases hf) l s hr
    unfold treeP at h1
    split at h1
    · split at h1
      · cases h1
      · rename_i hc
        cases h1
        simp only [Bool.or_eq_true, decide_eq_true_eq, not_or] at hc
        obtain ⟨_, _, nd', hnd, hF, _⟩ := g
        have hnd : s.nd = nd' := hnd
        subst hnd
        have hF : Fo 0 s.nd (fs.map Fnc.body) := hF
        refine ⟨hF.kids, ?_, ?_, by omega, by omega⟩
        · intro f hf
          obtain ⟨b1, b2⟩ := hb f hf
          obtain ⟨j, e, hj⟩ := hF.roots.2 f.body (List.mem_map_of_mem hf)
          rw [Nat.zero_add] at e
          refine ⟨j, s.nd[j], e, List.getElem?_eq_getElem hj, ?_⟩
          rw [e, Int.toNat_natCast, List.getD_eq_getElem?_getD, List.getElem?_eq_getElem hj] at b1
          exact b1
        · intro j hj
          have := hF.count (j : Int)
          rw [if_pos (by omega)] at this
          exact this
    · cases h1
end Go.Proofs.YtgelggdgbmldiaaGreatDoor
