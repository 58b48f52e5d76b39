/-
  Layer 2: Same, of two trees that are the same. Written by an AI agent.
  Layer 3: the document's text of an expression. Written by an AI agent.
-/
import Derived.Test.YtgelggdgbmldiaaDoorMkam
namespace Go.Proofs.YtgelggdgbmldiaaDoor
open Go Go.RowKit Go.Shelf
set_option linter.unusedVariables false
set_option linter.unusedSimpArgs false
theorem flatP_at (L : List (List UInt8 × Int)) (i j : Nat) (hi : i < L.length) (hj : j < 2) : (flatP L)[i * 2 + j]? = some ((PmV (L[i])).getD j undef) := by
  induction L generalizing i with
  | nil => exact absurd hi (Nat.not_lt_zero _)
  | cons a L ih =>
    show (PmV a ++ flatP L)[i * 2 + j]? = _
    cases i with
    | zero =>
      rw [List.getElem?_append_left (by show 0 * 2 + j < 2; omega), Nat.zero_mul, Nat.zero_add]
      match j, hj with
      | 0, _ => rfl
      | 1, _ => rfl
    | succ i =>
      rw [List.getElem?_append_right (by show 2 ≤ _; omega), show (i + 1) * 2 + j - (PmV a).length = i * 2 + j by show _ - 2 = _; omega]
      exact ih i (by simpa using hi)
set_option maxRecDepth 100000 in
set_option maxHeartbeats 16000000 in
theorem same_any (A A' B B' : Option Addr) (c c' d d' m k : Nat) (nd : List Nd) (fs : List Fnc) (w : World) (hx : TreeR 0 w A A' nd fs) (hy : TreeR 0 w B B' nd fs) (hm : m = nd.length) (hk : k = fs.length) (hl : m ≤ 1000000 ∧ ∀ x ∈ nd, x.l.length ≤ 1000000) (hk2 : k ≤ 1000000) (hp : ∀ x ∈ fs, x.ps.length ≤ 1000000) :
    Calls Tryd.prog 14 #[.agg #[.slice A m c, .slice A' k c'], .agg #[.slice B m d, .slice B' k d']] w fun e w' => e = .returned (.bool true) ∧ Keeps (fun _ => False) w w' := by
  have HX := Lib.hid hx
  have HY := Lib.hid hy
  have HM := Lib.hid hm
  have HK := Lib.hid hk
  have HL := Lib.hid hl
  have HL2 := Lib.hid hk2
  have HPS := Lib.hid hp
  clear hx hy hm hk hl hk2 hp
  go_enter Tryd.func14, Tryd.ntmps14
  go_upto_region 1 with fail
  have z1 := Loc.new (w := w) (R := fun _ => False) (fun h => h) [.slice A m c, .slice A' k c'] 27
  have k1 := Keeps.one w (.cells #[.slice A m c, .slice A' k c'] 27)
  obtain ⟨X1, hX1⟩ : ∃ X1, X1 = w.heap.size := ⟨_, rfl⟩
  have z2 := Loc.new (w := w.alloc (.cells #[.slice A m c, .slice A' k c'] 27)) (R := fun _ => False) (fun h => h) [.slice B m d, .slice B' k d'] 27
  have k2 := Keeps.one (w.alloc (.cells #[.slice A m c, .slice A' k c'] 27)) (.cells #[.slice B m d, .slice B' k d'] 27)
  have hX2 : (w.alloc (.cells #[.slice A m c, .slice A' k c'] 27)).heap.size = X1 + 1 := by rw [World.size_alloc, hX1]
  obtain ⟨w2, hw⟩ : ∃ w2, w2 = (w.alloc (.cells #[.slice A m c, .slice A' k c'] 27)).alloc (.cells #[.slice B m d, .slice B' k d'] 27) := ⟨_, rfl⟩
  have Z1 : Hid (Loc w2 (fun _ => False) X1 [.slice A m c, .slice A' k c']) := Lib.hid (by rw [hw, hX1]; exact z1.keeps k2)
  have Z2 : Hid (Loc w2 (fun _ => False) (X1 + 1) [.slice B m d, .slice B' k d']) := Lib.hid (by rw [hw, ← hX2]; exact z2)
  have KK : Hid (Keeps (fun _ => False) w w2) := Lib.hid (by rw [hw]; exact k1.trans k2 (fun _ _ h => h))
  rw [← hX1]
  rw [← hw]
  clear z1 z2 k1 k2 hX2 hw hX1
  have zA := Z1.out.cells 0 _ rfl
  have zA' := Z1.out.cells 1 _ rfl
  have zB := Z2.out.cells 0 _ rfl
  have zB' := Z2.out.cells 1 _ rfl
  go_wp2_with fail
  clear zA zA' zB zB'
  go_loopg [5, 6, 7, 8] (m + 1) (fun g s5 s6 s7 s8 wr => ∃ i : Nat, s5 = .int .i64 i ∧ i + g = m + 1 ∧ i ≤ m ∧ Keeps (fun _ => False) w2 wr)
  case atStart => exact ⟨0, rfl, by omega, by omega, Keeps.refl _ _⟩
  case round =>
    obtain ⟨i, rfl, hik, hle, kr⟩ := hrel
    have KR := Lib.hid kr
    have HIK := Lib.hid hik
    have zA := (Z1.out.keeps kr).cells 0 _ rfl
    have zA' := (Z1.out.keeps kr).cells 1 _ rfl
    have zB := (Z2.out.keeps kr).cells 0 _ rfl
    have zB' := (Z2.out.keeps kr).cells 1 _ rfl
    by_cases hin : i < m
    · have hinI : (i : Int) < (m : Int) := by omega
      have hd : decide ((i : Int) < (m : Int)) = true := decide_eq_true hinI
      have hi0 : (0 : Int) ≤ (i : Int) := by omega
      have hm1 : m ≤ 1000000 := HL.out.1
      have hw := IntWalk.i64_in ((i : Int) + 1) (by omega)
      have KT := KK.out.trans KR.out (fun _ _ h => h)
      obtain ⟨b1, o1, rfl, h1⟩ := (HX.out.keep KT).nodeAt (by rw [← HM.out]; omega)
      obtain ⟨b2, o2, rfl, h2⟩ := (HY.out.keep KT).nodeAt (by rw [← HM.out]; omega)
      obtain ⟨a1, q1, n0, n1, n2, n3, n4, nr⟩ := h1 i (by rw [← HM.out]; exact hin)
      obtain ⟨a2, q2, p0, p1, p2, p3, p4, pr⟩ := h2 i (by rw [← HM.out]; exact hin)
      obtain ⟨nl, hnl⟩ : ∃ nl, nl = (nd[i]'(by rw [← HM.out]; exact hin)).l := ⟨_, rfl⟩
      have hnl2 : nl.length ≤ 1000000 := by rw [hnl]; exact HL.out.2 _ (List.getElem_mem _)
      rw [← hnl] at n4 nr p4 pr
      generalize (nd[i]'(by rw [← HM.out]; exact hin)).k = e0 at n0 p0
      generalize (nd[i]'(by rw [← HM.out]; exact hin)).ln = e1 at n1 p1
      generalize (nd[i]'(by rw [← HM.out]; exact hin)).n = e2 at n2 p2
      generalize ofL (nd[i]'(by rw [← HM.out]; exact hin)).s = e3 at n3 p3
      obtain ⟨nn, hnn⟩ : ∃ nn, nn = nl.length := ⟨_, rfl⟩
      rw [← hnn] at n4 p4
      have HNN := Lib.hid hnn
      have IC : Hid (∀ wq, Keeps (fun _ => False) wr wq → Calls Tryd.prog 27 #[.slice a1 nn q1, .slice a2 nn q2] wq fun e w' => e = .returned (.bool true) ∧ Keeps (fun _ => False) wq w') := Lib.hid fun wq kq => ints_any a1 a2 q1 q2 nn nl HNN.out (by rw [HNN.out]; exact hnl2) wq (nr.up kq) (pr.up kq)
      have HIN := Lib.hid hin
      clear h1 h2 kr hik hin hnl hnn hnl2 nr pr KT
      have ka := Keeps.one wr (.cells #[.int .i64 e0, .int .i64 e1, .int .i64 e2, .string e3, .slice a1 nn q1] 33)
      have up : ∀ {b o : Nat} {v : Value}, wr.cell? ⟨b, o, none⟩ = some v → (wr.alloc (.cells #[.int .i64 e0, .int .i64 e1, .int .i64 e2, .string e3, .slice a1 nn q1] 33)).cell? ⟨b, o, none⟩ = some v := fun hc => (ka.cell (cell_ltk hc) (fun h => h)).trans hc
      have zx := Loc.new (w := wr) (R := fun _ => False) (fun h => h) [.int .i64 e0, .int .i64 e1, .int .i64 e2, .string e3, .slice a1 nn q1] 33
      go_upto_region 7 with fail
      obtain ⟨U, hU⟩ : ∃ U, U = wr.heap.size := ⟨_, rfl⟩
      obtain ⟨w3, hw3⟩ : ∃ w3, w3 = wr.alloc (.cells #[.int .i64 e0, .int .i64 e1, .int .i64 e2, .string e3, .slice a1 nn q1] 33) := ⟨_, rfl⟩
      have zx : Loc w3 (fun _ => False) U [.int .i64 e0, .int .i64 e1, .int .i64 e2, .string e3, .slice a1 nn q1] := by rw [hw3, hU]; exact zx
      rw [← hU]
      rw [← hw3] at ka up ⊢
      have zA := up zA
      have zA' := up zA'
      have zB := up zB
      have zB' := up zB'
      have p0 := up p0
      have p1 := up p1
      have p2 := up p2
      have p3 := up p3
      have p4 := up p4
      have KA := Lib.hid ka
      have ZX := Lib.hid zx
      clear hw3 hU zx up n0 n1 n2 n3 n4 ka
      have kb := Keeps.one w3 (.cells #[.int .i64 e0, .int .i64 e1, .int .i64 e2, .string e3, .slice a2 nn q2] 33)
      have zy := Loc.new (w := w3) (R := fun _ => False) (fun h => h) [.int .i64 e0, .int .i64 e1, .int .i64 e2, .string e3, .slice a2 nn q2] 33
      go_upto_region 8 with fail
      obtain ⟨V, hV⟩ : ∃ V, V = w3.heap.size := ⟨_, rfl⟩
      obtain ⟨w4, hw4⟩ : ∃ w4, w4 = w3.alloc (.cells #[.int .i64 e0, .int .i64 e1, .int .i64 e2, .string e3, .slice a2 nn q2] 33) := ⟨_, rfl⟩
      have zy : Loc w4 (fun _ => False) V [.int .i64 e0, .int .i64 e1, .int .i64 e2, .string e3, .slice a2 nn q2] := by rw [hw4, hV]; exact zy
      rw [← hV]
      rw [← hw4] at kb ⊢
      have KB := Lib.hid (KA.out.trans kb (fun _ _ h => h))
      have ZX4 := Lib.hid (ZX.out.keeps kb)
      have ZY := Lib.hid zy
      clear hw4 hV zy zA zA' zB zB' p0 p1 p2 p3 p4 kb ZX
      have x4 := ZX4.out.cells 4 _ rfl
      have y4 := ZY.out.cells 4 _ rfl
      have CI := Lib.hid (IC.out _ KB.out)
      clear IC
      go_wp2_with fail
      refine CI.out.mono ?_
      rintro e w5 ⟨rfl, k5⟩
      have zx5 := ZX4.out.keeps k5
      have zy5 := ZY.out.keeps k5
      have x0 := zx5.cells 0 _ rfl
      have x1 := zx5.cells 1 _ rfl
      have x2 := zx5.cells 2 _ rfl
      have x3 := zx5.cells 3 _ rfl
      have y0 := zy5.cells 0 _ rfl
      have y1 := zy5.cells 1 _ rfl
      have y2 := zy5.cells 2 _ rfl
      have y3 := zy5.cells 3 _ rfl
      have K5 := Lib.hid ((KR.out.trans KB.out (fun _ _ h => h)).trans k5 (fun _ _ h => h))
      clear CI zx5 zy5 k5 x4 y4
      go_wp2_with fail
      go_roundg (gk - 1)
      case measure => go_light; have h1 := HIK.out; have h2 := HIN.out; omega
      case rel => exact ⟨i + 1, by go_num, by have h1 := HIK.out; have h2 := HIN.out; go_light; omega, by have h2 := HIN.out; go_light; omega, K5.out⟩
    · obtain rfl : i = m := by omega
      have hinI : ¬ (i : Int) < (i : Int) := by omega
      have hd : decide ((i : Int) < (i : Int)) = false := decide_eq_false hinI
      clear hin hik kr
      go_wp2_with fail
      clear zA zA' zB zB' hd hinI
      go_loopg [9, 10, 11, 12] (k + 1) (fun g s9 s10 s11 s12 wr => ∃ i : Nat, s9 = .int .i64 i ∧ i + g = k + 1 ∧ i ≤ k ∧ Keeps (fun _ => False) w2 wr)
      case atStart => exact ⟨0, rfl, by omega, by omega, KR.out⟩
      case round =>
        obtain ⟨i, rfl, hik, hle, kr⟩ := hrel
        have KR2 := Lib.hid kr
        have HIK2 := Lib.hid hik
        have zA := (Z1.out.keeps kr).cells 0 _ rfl
        have zA' := (Z1.out.keeps kr).cells 1 _ rfl
        have zB := (Z2.out.keeps kr).cells 0 _ rfl
        have zB' := (Z2.out.keeps kr).cells 1 _ rfl
        obtain ⟨g0, hg0⟩ : ∃ g0, g0 = gk := ⟨_, rfl⟩
        subst hg0
        by_cases hin : i < k
        · have hinI : (i : Int) < (k : Int) := by omega
          have hd : decide ((i : Int) < (k : Int)) = true := decide_eq_true hinI
          have hi0 : (0 : Int) ≤ (i : Int) := by omega
          have hm1 := HL2.out
          have hw := IntWalk.i64_in ((i : Int) + 1) (by omega)
          have KT := KK.out.trans KR2.out (fun _ _ h => h)
          obtain ⟨b1, o1, rfl, h1⟩ := (HX.out.keep KT).fnAt (by rw [← HK.out]; omega)
          obtain ⟨b2, o2, rfl, h2⟩ := (HY.out.keep KT).fnAt (by rw [← HK.out]; omega)
          obtain ⟨a1, q1, n0, n1, n2, n3, n4, nr⟩ := h1 i (by rw [← HK.out]; exact hin)
          obtain ⟨a2, q2, p0, p1, p2, p3, p4, pr⟩ := h2 i (by rw [← HK.out]; exact hin)
          obtain ⟨nl, hnl⟩ : ∃ nl, nl = (fs[i]'(by rw [← HK.out]; exact hin)).ps := ⟨_, rfl⟩
          have hnl2 : nl.length ≤ 1000000 := by rw [hnl]; exact HPS.out _ (List.getElem_mem _)
          rw [← hnl] at n2 nr p2 pr
          generalize ofL (fs[i]'(by rw [← HK.out]; exact hin)).s = e0 at n0 p0
          generalize (fs[i]'(by rw [← HK.out]; exact hin)).ln = e1 at n1 p1
          generalize (fs[i]'(by rw [← HK.out]; exact hin)).ret = e3 at n3 p3
          generalize (fs[i]'(by rw [← HK.out]; exact hin)).body = e4 at n4 p4
          obtain ⟨nn, hnn⟩ : ∃ nn, nn = nl.length := ⟨_, rfl⟩
          rw [← hnn] at n2 p2 hnl2
          have HNN := Lib.hid hnn
          have HNR := Lib.hid nr
          have HPR := Lib.hid pr
          have HIN := Lib.hid hin
          clear h1 h2 kr hik hin hnl hnn nr pr KT
          have ka := Keeps.one wr (.cells #[.string e0, .int .i64 e1, .slice a1 nn q1, .int .i64 e3, .int .i64 e4] 36)
          have up : ∀ {b o : Nat} {v : Value}, wr.cell? ⟨b, o, none⟩ = some v → (wr.alloc (.cells #[.string e0, .int .i64 e1, .slice a1 nn q1, .int .i64 e3, .int .i64 e4] 36)).cell? ⟨b, o, none⟩ = some v := fun hc => (ka.cell (cell_ltk hc) (fun h => h)).trans hc
          have zx := Loc.new (w := wr) (R := fun _ => False) (fun h => h) [.string e0, .int .i64 e1, .slice a1 nn q1, .int .i64 e3, .int .i64 e4] 36
          go_upto_region 15 with fail
          obtain ⟨U, hU⟩ : ∃ U, U = wr.heap.size := ⟨_, rfl⟩
          obtain ⟨w3, hw3⟩ : ∃ w3, w3 = wr.alloc (.cells #[.string e0, .int .i64 e1, .slice a1 nn q1, .int .i64 e3, .int .i64 e4] 36) := ⟨_, rfl⟩
          have zx : Loc w3 (fun _ => False) U [.string e0, .int .i64 e1, .slice a1 nn q1, .int .i64 e3, .int .i64 e4] := by rw [hw3, hU]; exact zx
          rw [← hU]
          rw [← hw3] at ka up ⊢
          have zA := up zA
          have zA' := up zA'
          have zB := up zB
          have zB' := up zB'
          have p0 := up p0
          have p1 := up p1
          have p2 := up p2
          have p3 := up p3
          have p4 := up p4
          have KA := Lib.hid ka
          have ZX := Lib.hid zx
          clear hw3 hU zx up n0 n1 n2 n3 n4 ka
          have kb := Keeps.one w3 (.cells #[.string e0, .int .i64 e1, .slice a2 nn q2, .int .i64 e3, .int .i64 e4] 36)
          have zy := Loc.new (w := w3) (R := fun _ => False) (fun h => h) [.string e0, .int .i64 e1, .slice a2 nn q2, .int .i64 e3, .int .i64 e4] 36
          go_upto_region 16 with fail
          obtain ⟨V, hV⟩ : ∃ V, V = w3.heap.size := ⟨_, rfl⟩
          obtain ⟨w4, hw4⟩ : ∃ w4, w4 = w3.alloc (.cells #[.string e0, .int .i64 e1, .slice a2 nn q2, .int .i64 e3, .int .i64 e4] 36) := ⟨_, rfl⟩
          have zy : Loc w4 (fun _ => False) V [.string e0, .int .i64 e1, .slice a2 nn q2, .int .i64 e3, .int .i64 e4] := by rw [hw4, hV]; exact zy
          rw [← hV]
          rw [← hw4] at kb ⊢
          have KB := Lib.hid (KA.out.trans kb (fun _ _ h => h))
          have ZX4 := Lib.hid (ZX.out.keeps kb)
          have ZY := Lib.hid zy
          have HNR4 := Lib.hid (HNR.out.up KB.out)
          have HPR4 := Lib.hid (HPR.out.up KB.out)
          clear hw4 hV zy zA zA' zB zB' p0 p1 p2 p3 p4 kb ZX HNR HPR
          have x0 := ZX4.out.cells 0 _ rfl
          have x1 := ZX4.out.cells 1 _ rfl
          have x2 := ZX4.out.cells 2 _ rfl
          have x3 := ZX4.out.cells 3 _ rfl
          have x4 := ZX4.out.cells 4 _ rfl
          have y0 := ZY.out.cells 0 _ rfl
          have y1 := ZY.out.cells 1 _ rfl
          have y2 := ZY.out.cells 2 _ rfl
          have y3 := ZY.out.cells 3 _ rfl
          have y4 := ZY.out.cells 4 _ rfl
          go_wp2_with fail
          clear x0 x1 x2 x3 x4 y0 y1 y2 y3 y4
          go_loopg [12] (nn + 1) (fun g s12 wr => ∃ j : Nat, s12 = .int .i64 j ∧ j + g = nn + 1 ∧ j ≤ nn ∧ Keeps (fun _ => False) w4 wr)
          case atStart => exact ⟨0, rfl, by omega, by omega, Keeps.refl _ _⟩
          case round =>
            obtain ⟨j, rfl, hjk, hjle, kj⟩ := hrel
            have KJ := Lib.hid kj
            have HJK := Lib.hid hjk
            have x2 := (ZX4.out.keeps kj).cells 2 _ rfl
            have y2 := (ZY.out.keeps kj).cells 2 _ rfl
            by_cases hjn : j < nn
            · have hjnI : (j : Int) < (nn : Int) := by omega
              have hdj : decide ((j : Int) < (nn : Int)) = true := decide_eq_true hjnI
              have hj0 : (0 : Int) ≤ (j : Int) := by omega
              have hwj := IntWalk.i64_in ((j : Int) + 1) (by omega)
              have hj2 : j < nl.length := by rw [← HNN.out]; exact hjn
              obtain ⟨bb1, oo1, rfl, c1⟩ := (HNR4.out.up kj) (by rw [flatP_length]; omega)
              obtain ⟨bb2, oo2, rfl, c2⟩ := (HPR4.out.up kj) (by rw [flatP_length]; omega)
              have r0 := c1 (j * 2 + 0) _ (flatP_at nl j 0 hj2 (by omega))
              have r1 := c1 (j * 2 + 1) _ (flatP_at nl j 1 hj2 (by omega))
              have s0 := c2 (j * 2 + 0) _ (flatP_at nl j 0 hj2 (by omega))
              have s1 := c2 (j * 2 + 1) _ (flatP_at nl j 1 hj2 (by omega))
              rw [show oo1 + (j * 2 + 0) = oo1 + j * 2 by omega] at r0
              rw [show oo1 + (j * 2 + 1) = oo1 + j * 2 + 1 by omega] at r1
              rw [show oo2 + (j * 2 + 0) = oo2 + j * 2 by omega] at s0
              rw [show oo2 + (j * 2 + 1) = oo2 + j * 2 + 1 by omega] at s1
              obtain ⟨ps, hps⟩ : ∃ ps, ps = ofL (nl[j]).1 := ⟨_, rfl⟩
              obtain ⟨pt, hpt⟩ : ∃ pt, pt = (nl[j]).2 := ⟨_, rfl⟩
              have t0 : wr.cell? ⟨bb1, oo1 + j * 2, none⟩ = some (.string ps) := by rw [hps]; exact r0
              have t1 : wr.cell? ⟨bb1, oo1 + j * 2 + 1, none⟩ = some (.int .i64 pt) := by rw [hpt]; exact r1
              have t2 : wr.cell? ⟨bb2, oo2 + j * 2, none⟩ = some (.string ps) := by rw [hps]; exact s0
              have t3 : wr.cell? ⟨bb2, oo2 + j * 2 + 1, none⟩ = some (.int .i64 pt) := by rw [hpt]; exact s1
              have gg := guard_param
              have qq : ∀ w : World, (binOp .neq 59 (.agg #[.string ps, .int .i64 pt]) (.agg #[.string ps, .int .i64 pt])).run Tryd.prog w = .ok (.bool false) w := fun w => by rw [neq_param]; simp
              have HJN := Lib.hid hjn
              clear c1 c2 kj hjk hjn hps hpt r0 r1 s0 s1 hj2
              go_wp2_with fail
              go_quiet (fail)
              go_wp2_with fail
              go_roundg (gk - 1)
              case measure => go_light; have h1 := HJK.out; have h2 := HJN.out; omega
              case rel => exact ⟨j + 1, by go_num, by have h1 := HJK.out; have h2 := HJN.out; go_light; omega, by have h2 := HJN.out; go_light; omega, KJ.out.trans (drew_keeps _ _) (fun _ _ h => h)⟩
            · obtain rfl : j = nn := by omega
              have hjnI : ¬ (j : Int) < (j : Int) := by omega
              have hdj : decide ((j : Int) < (j : Int)) = false := decide_eq_false hjnI
              have K6 := Lib.hid ((KR2.out.trans KB.out (fun _ _ h => h)).trans KJ.out (fun _ _ h => h))
              clear hjn hjk kj
              go_wp2_with fail
              go_roundg (g0 - 1)
              case measure => go_light; have h1 := HIK2.out; have h2 := HIN.out; omega
              case rel => exact ⟨i + 1, by go_num, by have h1 := HIK2.out; have h2 := HIN.out; go_light; omega, by have h2 := HIN.out; go_light; omega, K6.out⟩
        · obtain rfl : i = k := by omega
          have hinI : ¬ (i : Int) < (i : Int) := by omega
          have hd : decide ((i : Int) < (i : Int)) = false := decide_eq_false hinI
          have K7 := Lib.hid (KK.out.trans KR2.out (fun _ _ h => h))
          clear hin hik kr
          go_wp2_with fail
          go_ret
          exact ⟨rfl, K7.out⟩
end Go.Proofs.YtgelggdgbmldiaaDoor

namespace Go.Proofs.YtgelggdgbmldiaaDoor
open Go Go.RowKit Go.Shelf
set_option linter.unusedVariables false
set_option linter.unusedSimpArgs false
def wordL (t : Int) : List UInt8 := if t = 1 then [105, 110, 116] else if t = 2 then [98, 111, 111, 108] else if t = 3 then [116, 101, 120, 116] else if t = 4 then [108, 105, 115, 116] else []
theorem wordL_len (t : Int) : (wordL t).length ≤ 4 := by
  unfold wordL
  repeat' split
  all_goals decide
section
variable (w : World)
end
end Go.Proofs.YtgelggdgbmldiaaDoor
