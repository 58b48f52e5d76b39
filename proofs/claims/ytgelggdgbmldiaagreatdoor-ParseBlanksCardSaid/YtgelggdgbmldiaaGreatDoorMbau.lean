/-
  Layer 2: ParseBlanks. Written by an AI agent.
  Layer 2: ParseBlanks. Written by an AI agent.
  Layer 2: ParseBlanks, both cases. Written by an AI agent.
  Layer 2: the start of a row. Written by an AI agent.
-/
import Derived.Test.YtgelggdgbmldiaaGreatDoorMbat
import Derived.Deep.LoopGhost
import Derived.Deep.CutRange
import Derived.Deep.Light
import Derived.BigQuiet
import Derived.Test.YtgelggdgbmldiaaGreatDoorRows
import Derived.Test.YtgelggdgbmldiaaGreatDoorMbac
import Derived.Stop.LaidErr
import Derived.LaidMore
import Derived.Stop.Joined
import Derived.ProofKit
import Derived.ChangeOld
namespace Go.Proofs.YtgelggdgbmldiaaGreatDoor
open Go Go.RowKit Go.Shelf
set_option linter.unusedVariables false
set_option linter.unusedSimpArgs false

theorem bap_list (a b : ByteArray) : (a ++ b).data.toList = a.data.toList ++ b.data.toList := by simp [ByteArray.data_append]

set_option maxRecDepth 100000 in
set_option maxHeartbeats 32000000 in
theorem blanks_walkS (s0 : ByteArray) (h0 : ¬ 300 < s0.size) (w : World) (he : ErrW w) : Calls Tryz.prog 5 #[.string s0] w fun e w' => e = .returned (.bool true) ∧ Keeps (fun _ => False) w w' := by
  have HC := Lib.hid (shown_any w he)
  have HE := Lib.hid he
  clear he
  go_enter Tryz.func5, Tryz.ntmps5
  go_wp2_with fail
  refine HC.out.mono ?_
  rintro e w1 ⟨rfl, k1⟩
  have K1 := Lib.hid k1
  clear HC k1
  have hIa : ¬ (300 : Int) < (s0.size : Int) := by omega
  have hDa : decide ((300 : Int) < (s0.size : Int)) = false := decide_eq_false hIa
  have HSA := Lib.hid (show s0.size ≤ 300 by omega)
  clear h0
  go_upto_region 4 with fail
  clear hIa hDa
  generalize s0 = a at *
  obtain ⟨res, hres⟩ := allP_some a.data.toList 6100 (Nat.le_refl _)
  have HRES := Lib.hid hres
  have LC : Hid (∀ w3, Calls Tryz.prog 13 #[.string a] w3 fun e w' => ∃ A c, e = .returned (.tuple #[.slice A (resX a.data.toList).1.length c, .int .i64 ((resX a.data.toList).2.1 : Int), .int .i64 ((resX a.data.toList).2.2 : Int)]) ∧ RdT w' A (resX a.data.toList).1 ∧ Keeps (fun _ => False) w3 w') := Lib.hid fun w3 => rlex_any a (by have := HSA.out; omega) w3
  by_cases he0 : erOf res = 0
  · obtain ⟨nd, fs, rfl⟩ := er_tree hres he0
    obtain ⟨ini, htk, hn6, hjl, nd', fs', hbl, hnd, hfs⟩ := toks_data _ nd fs hres (by rw [len_size]; exact HSA.out)
    rw [htk] at LC
    have HFit : Hid (Fit nd fs) := Lib.hid (fit_of hres)
    have HJL := Lib.hid hjl
    have HBL := Lib.hid hbl
    have HND := Lib.hid hnd
    have HFS := Lib.hid hfs
    obtain ⟨n, hn⟩ : ∃ n, n = ini.length := ⟨_, rfl⟩
    obtain ⟨T, hT⟩ : ∃ T, T = ini ++ [(⟨0, [], 0 + a.data.toList.length⟩ : Tok)] := ⟨_, rfl⟩
    have hTl : T.length = n + 1 := by rw [hT, List.length_append, hn]; rfl
    have hget : ∀ i, i < n → T.getD i default = ini.getD i default := fun i hi => by
      rw [hT, List.getD, List.getD, List.getElem?_append_left (by omega)]
    have HGET := Lib.hid hget
    have HTL := Lib.hid hTl
    have HN := Lib.hid hn
    have hn6 : n ≤ 600 := by omega
    obtain ⟨m, hm⟩ : ∃ m, m = nd.length := ⟨_, rfl⟩
    obtain ⟨k, hk⟩ : ∃ k, k = fs.length := ⟨_, rfl⟩
    have HLIM : Hid (m ≤ 300 ∧ k ≤ 6) := Lib.hid ⟨by rw [hm]; exact HFit.out.nds, by rw [hk]; exact HFit.out.fns⟩
    have hm2 : nd'.length = m := by have := congrArg List.length hnd; rw [List.length_map, List.length_map] at this; omega
    have hk2 : fs'.length = k := by have := congrArg List.length hfs; rw [List.length_map, List.length_map] at this; omega
    have HM := Lib.hid hm
    have HK := Lib.hid hk
    have AC := Lib.hid (srcX a nd fs hres w1 (HE.out.keep K1.out))
    have BC : Hid (∀ (g : ByteArray) w6, g.data.toList = joinN ini → Keeps (fun _ => False) w w6 → Calls Tryz.prog 8 #[.string g] w6 fun e w' => ∃ A c A' c', e = .returned (.tuple #[.agg #[.slice A m c, .slice A' k c'], .int .i64 0, .int .i64 0]) ∧ (∃ L M, L.map NM.d = nd' ∧ M.map FM.d = fs' ∧ TreeW w6.heap.size w'.heap.size w' A A' L M 0 0) ∧ Keeps (fun _ => False) w6 w') := Lib.hid (by
      intro g w6 hg k6
      rw [← hm2, ← hk2]
      exact srcX g nd' fs' (by rw [hg]; exact HBL.out) w6 (HE.out.keep k6))
    rw [← hm, ← hk] at AC
    rw [← hT, hTl] at LC
    clear hm hk hm2 hk2 hn hT hTl hget hnd hfs hbl hjl htk hres HRES he0
    go_wp2_with fail
    refine AC.out.mono ?_
    rintro e w3 ⟨A, c, A', c', rfl, hTr, k3⟩
    have K3 := Lib.hid (K1.out.trans k3 (fun _ _ h => h))
    have HT3 := Lib.hid hTr
    have HLO : Hid (w.heap.size ≤ w1.heap.size) := Lib.hid K1.out.size
    clear AC K1 k3 hTr
    go_upto_region 5 with fail
    have ka := Keeps.one w3 (.cells #[.slice A m c, .slice A' k c'] 27)
    obtain ⟨P1, hP1⟩ : ∃ X, X = w3.heap.size := ⟨_, rfl⟩
    obtain ⟨w4, hw⟩ : ∃ w4, w4 = w3.alloc (.cells #[.slice A m c, .slice A' k c'] 27) := ⟨_, rfl⟩
    have HX4 : Hid (Loc w4 (fun _ => False) P1 [.slice A m c, .slice A' k c']) := Lib.hid (by rw [hw, hP1]; exact Loc.new (fun h => h) [.slice A m c, .slice A' k c'] 27)
    have HT4 : Hid (∃ L M, L.map NM.d = nd ∧ M.map FM.d = fs ∧ TreeW w1.heap.size P1 w4 A A' L M 0 0) := Lib.hid (by
      obtain ⟨L, M, h1, h2, h3⟩ := HT3.out
      rw [← hP1] at h3
      refine ⟨L, M, h1, h2, ?_⟩
      rw [hw]
      exact h3.keep ka)
    have HO4 : Hid (w.heap.size ≤ P1) := Lib.hid (by rw [hP1]; exact K3.out.size)
    rw [← hP1]
    rw [← hw] at ka ⊢
    have K4 := Lib.hid (K3.out.trans ka (fun _ _ h => h))
    have LD := Lib.hid (LC.out w4)
    clear ka hw LC K3 HT3 hP1
    go_wp2_with fail
    refine LD.out.mono ?_
    rintro e w5 ⟨D, dd, rfl, hR, k5⟩
    have K5 := Lib.hid (K4.out.trans k5 (fun _ _ h => h))
    have HR := Lib.hid hR
    have HX5 := Lib.hid (HX4.out.keeps k5)
    have HT5 : Hid (∃ L M, L.map NM.d = nd ∧ M.map FM.d = fs ∧ TreeW w1.heap.size P1 w5 A A' L M 0 0) := Lib.hid (by
      obtain ⟨L, M, h1, h2, h3⟩ := HT4.out
      exact ⟨L, M, h1, h2, h3.keep k5⟩)
    clear LD k5 K4 hR HX4 HT4
    go_upto_region 10 with fail
    go_loopg [10, 11, 12] (n + 1) (fun q s10 s11 s12 wr => ∃ (i : Nat) (g : ByteArray), s10 = .string g ∧ s11 = .int .i64 i ∧ i + q = n + 1 ∧ i ≤ n ∧ g.data.toList = joinN (ini.take i) ∧ Keeps (fun _ => False) w5 wr)
    case atStart => exact ⟨0, _, rfl, rfl, by omega, by omega, rfl, Keeps.refl _ _⟩
    case round =>
      obtain ⟨i, g, rfl, rfl, hiq, hin1, hg, kr⟩ := hrel
      have KR := Lib.hid kr
      have HIQ := Lib.hid hiq
      have HG := Lib.hid hg
      have hgs : g.size ≤ 600 := by rw [← len_size, hg]; exact HJL.out i (by rw [← HN.out]; exact hin1)
      have HRr := Lib.hid (HR.out.keep kr)
      have sw : IntKind.i64.wrap (((n + 1 : Nat) : Int) - 1) = (n : Int) := by rw [IntWalk.i64_in _ (by omega)]; omega
      clear hiq hg kr
      by_cases hin : i < n
      · have hI : (i : Int) < (n : Int) := by omega
        have hdI : decide ((i : Int) < (n : Int)) = true := decide_eq_true hI
        have hI1 : (i : Int) < ((n + 1 : Nat) : Int) := by omega
        have hi0 : (0 : Int) ≤ (i : Int) := by omega
        have wi : IntKind.i64.wrap ((i : Int) + 1) = (i : Int) + 1 := IntWalk.i64_in _ (by omega)
        have HIN := Lib.hid hin
        have hL : i < T.length := by rw [HTL.out]; omega
        obtain ⟨bk, off, hD, hc⟩ := HRr.out (by omega)
        obtain ⟨c0, c1, -⟩ := hc i hL
        rw [HGET.out i hin] at c0 c1
        obtain ⟨tk, htk⟩ : ∃ t : Tok, t = ini.getD i default := ⟨_, rfl⟩
        have hnx := joinN_next (ts := ini) (i := i) (by rw [← HN.out]; exact hin)
        have hjn := HJL.out (i + 1) (by rw [← HN.out]; omega)
        rw [← htk] at c0 c1 hnx
        obtain ⟨tk, tx, tp⟩ := tk
        replace c0 : wr.cell? ⟨bk, off + i * 3, none⟩ = some (.int .i64 (tk : Int)) := c0
        replace c1 : wr.cell? ⟨bk, off + i * 3 + 1, none⟩ = some (.string (ofL tx)) := c1
        obtain ⟨Tx, hTx⟩ : ∃ T : ByteArray, T = ofL tx := ⟨_, rfl⟩
        have hTl : Tx.data.toList = tx := by rw [hTx]; exact ofL_list tx
        rw [← hTx] at c1
        subst hD
        rw [hnx, List.length_append, List.length_append, ← HG.out, len_size] at hjn
        clear hc htk hTx hL hin1
        by_cases h2 : tk = 2
        · have q2 : ((tk : Int) == 2) = true := by simp; omega
          have htb : tokB (⟨tk, tx, tp⟩ : Tok) = 34 :: (tx ++ [34]) := if_pos h2
          have hts : Tx.size + 2 + g.size ≤ 599 := by
            rw [htb, ← hTl, List.length_cons, List.length_append, len_size] at hjn
            have : ([34] : List UInt8).length = 1 := rfl
            have : ([10] : List UInt8).length = 1 := rfl
            omega
          have q3 : ¬ 9223372036854775807 < 1 + Tx.size := by omega
          have q4 : ¬ 9223372036854775807 < 1 + Tx.size + 1 := by omega
          have q5 : ¬ 9223372036854775807 < g.size + (1 + Tx.size + 1) := by omega
          have q6 : ¬ 9223372036854775807 < g.size + (1 + Tx.size + 1) + 1 := by omega
          have HM : Hid ((g ++ ({ data := #[34] } ++ Tx ++ { data := #[34] }) ++ { data := #[10] }).data.toList = joinN (ini.take (i + 1))) := by
            rw [hnx, htb, bap_list, bap_list, bap_list, bap_list, HG.out, hTl]
            exact Lib.hid rfl
          clear hnx hTl h2 htb hjn
          go_wp2_with fail
          go_roundg (gk - 1)
          case measure => go_light; have h1 := HIQ.out; have h2 := HIN.out; omega
          case rel => exact ⟨i + 1, _, rfl, by go_num, by have h1 := HIQ.out; have h2 := HIN.out; go_light; omega, by have h2 := HIN.out; go_light; omega, HM.out, by first | exact KR.out | exact KR.out.drew⟩
        · have q2 : ((tk : Int) == 2) = false := by simp; omega
          have htb : tokB (⟨tk, tx, tp⟩ : Tok) = tx := if_neg h2
          have hts : Tx.size + g.size ≤ 599 := by
            rw [htb, ← hTl, len_size] at hjn
            have : ([10] : List UInt8).length = 1 := rfl
            omega
          have q5 : ¬ 9223372036854775807 < g.size + Tx.size := by omega
          have q6 : ¬ 9223372036854775807 < g.size + Tx.size + 1 := by omega
          have HM : Hid ((g ++ Tx ++ { data := #[10] }).data.toList = joinN (ini.take (i + 1))) := by
            rw [hnx, htb, bap_list, bap_list, HG.out, hTl]
            exact Lib.hid rfl
          clear hnx hTl h2 htb hjn
          go_wp2_with fail
          go_roundg (gk - 1)
          case measure => go_light; have h1 := HIQ.out; have h2 := HIN.out; omega
          case rel => exact ⟨i + 1, _, rfl, by go_num, by have h1 := HIQ.out; have h2 := HIN.out; go_light; omega, by have h2 := HIN.out; go_light; omega, HM.out, by first | exact KR.out | exact KR.out.drew⟩
      · obtain rfl : i = n := by omega
        have hI : ¬ (i : Int) < (i : Int) := by omega
        have hdI : decide ((i : Int) < (i : Int)) = false := decide_eq_false hI
        have hgl : g.data.toList = joinN ini := by rw [HG.out, HN.out, List.take_length]
        have K6 := Lib.hid (K5.out.trans KR.out (fun _ _ h => h))
        have BD := Lib.hid (BC.out g wr hgl K6.out)
        have HX6 := Lib.hid (HX5.out.keeps KR.out)
        have HT6 : Hid (∃ L M, L.map NM.d = nd ∧ M.map FM.d = fs ∧ TreeW w1.heap.size P1 wr A A' L M 0 0) := Lib.hid (by
          obtain ⟨L, M, h1, h2, h3⟩ := HT5.out
          exact ⟨L, M, h1, h2, h3.keep KR.out⟩)
        have HO6 : Hid (P1 < wr.heap.size) := Lib.hid HX6.out.lt
        have hgb : ¬ (600 : Int) < (g.size : Int) := by omega
        have hgd : decide ((600 : Int) < (g.size : Int)) = false := decide_eq_false hgb
        obtain ⟨wo, hwo⟩ : ∃ x, x = wr := ⟨_, rfl⟩
        subst hwo
        obtain ⟨gl0, hgl0⟩ : ∃ x, x = gk := ⟨_, rfl⟩
        subst hgl0
        clear hgl BC HT5 HX5 hin hgs hin1 HG HJL
        go_wp2_with fail
        refine BD.out.mono ?_
        rintro e w7 ⟨B, d, B', d', rfl, hU, k7⟩
        have K7 := Lib.hid (K6.out.trans k7 (fun _ _ h => h))
        have HX7 := Lib.hid (HX6.out.keeps k7)
        obtain ⟨lo1, hlo1⟩ : ∃ x, x = w1.heap.size := ⟨_, rfl⟩
        obtain ⟨lo2, hlo2⟩ : ∃ x, x = wo.heap.size := ⟨_, rfl⟩
        rw [← hlo1] at HT6 HLO
        rw [← hlo2] at hU HO6
        have HU7 := Lib.hid hU
        have HT7 : Hid (∃ L M, L.map NM.d = nd ∧ M.map FM.d = fs ∧ TreeW lo1 P1 w7 A A' L M 0 0) := Lib.hid (by
          obtain ⟨L, M, h1, h2, h3⟩ := HT6.out
          exact ⟨L, M, h1, h2, h3.keep k7⟩)
        have HO7 : Hid (P1 < w7.heap.size) := Lib.hid HX7.out.lt
        clear BD k7 hU HX6 HT6 K6 hlo1 hlo2 hI hdI sw K5 HR HRr KR
        go_upto_region 17 with fail
        have ka := Keeps.one w7 (.cells #[.slice B m d, .slice B' k d'] 27)
        obtain ⟨P2, hP2⟩ : ∃ X, X = w7.heap.size := ⟨_, rfl⟩
        obtain ⟨w8, hw⟩ : ∃ w8, w8 = w7.alloc (.cells #[.slice B m d, .slice B' k d'] 27) := ⟨_, rfl⟩
        have HY8 : Hid (Loc w8 (fun _ => False) P2 [.slice B m d, .slice B' k d']) := Lib.hid (by rw [hw, hP2]; exact Loc.new (fun h => h) [.slice B m d, .slice B' k d'] 27)
        rw [← hP2]
        rw [← hw] at ka ⊢
        have HBALL : Hid (∃ L M L2 M2, L.map NM.d = nd ∧ M.map FM.d = fs ∧ L2.map NM.d = nd' ∧ M2.map FM.d = fs' ∧ BlkW w P1 P2 m k A A' B B' c c' d d' L M L2 M2 lo1 lo2 0 0 0 0 w8) := Lib.hid (by
          obtain ⟨L, M, h1, h2, h3⟩ := HT7.out
          obtain ⟨L2, M2, h4, h5, h6⟩ := HU7.out
          have e1 := congrArg List.length HND.out
          have e2 := congrArg List.length HFS.out
          rw [List.length_map, List.length_map] at e1 e2
          rw [← hP2] at h6
          refine ⟨L, M, L2, M2, h1, h2, h4, h5, { x := HX7.out.keeps ka, y := HY8.out, t := h3.keep ka, u := h6.keep ka, kp := ((K7.out.trans ka (fun _ _ h => h)).mono (fun _ _ h => h.elim)), o1 := HLO.out, o2 := HO6.out, o3 := by rw [hP2]; exact HO7.out, o4 := HO4.out, l1 := ?_, l2 := ?_, l3 := ?_, l4 := ?_ }⟩
          · rw [HM.out, ← h1, List.length_map]
          · rw [HK.out, ← h2, List.length_map]
          · rw [HM.out, ← e1, ← h4, List.length_map]
          · rw [HK.out, ← e2, ← h5, List.length_map])
        obtain ⟨L, M, L2, M2, g1, g2, g3, g4, g5⟩ := HBALL.out
        have HB1 := Lib.hid g5
        have HD4 : Hid (L.map NM.d = nd ∧ M.map FM.d = fs ∧ L2.map NM.d = nd' ∧ M2.map FM.d = fs') := Lib.hid ⟨g1, g2, g3, g4⟩
        clear ka hw hP2 g1 g2 g3 g4 g5 HBALL HY8 HX7 HT7 HU7 HO6 HO7 HO4 HLO K7
        go_upto_region 20 with fail
        clear hgb hgd
        go_loopg [16] (m + 1) (fun g s16 wr => ∃ i : Nat, s16 = .int .i64 i ∧ i + g = m + 1 ∧ i ≤ m ∧ BlkW w P1 P2 m k A A' B B' c c' d d' L M L2 M2 lo1 lo2 i 0 0 0 wr)
        case atStart => exact ⟨0, rfl, by omega, by omega, HB1.out⟩
        case round =>
          obtain ⟨i, rfl, hik, him, hb⟩ := hrel
          have HIK := Lib.hid hik
          have HBB := Lib.hid hb
          have LIM := HLIM.out
          have z0 := hb.x.cells 0 _ rfl
          have z1 := hb.x.cells 1 _ rfl
          have y0 := hb.y.cells 0 _ rfl
          have y1 := hb.y.cells 1 _ rfl
          clear hb
          by_cases hin : i < m
          · have hinI : (i : Int) < (m : Int) := by omega
            have hind : decide ((i : Int) < (m : Int)) = true := decide_eq_true hinI
            have hi0 : (0 : Int) ≤ (i : Int) := by omega
            have wi : IntKind.i64.wrap ((i : Int) + 1) = (i : Int) + 1 := IntWalk.i64_in _ (by omega)
            have HIN := Lib.hid hin
            obtain ⟨b, v, hA, e1, e2, hb2⟩ := HBB.out.step1 hin
            have HA2 := Lib.hid hA
            have HB2 := Lib.hid hb2
            rw [hA] at z0
            clear hA hb2 hik him hin LIM
            go_wp2_with fail
            go_roundg (gk - 1)
            case measure => go_light; have h1 := HIK.out; have h2 := HIN.out; omega
            case rel => exact ⟨i + 1, by go_num, by have h1 := HIK.out; have h2 := HIN.out; go_light; omega, by have h2 := HIN.out; go_light; omega, HB2.out⟩
          · obtain rfl : m = i := by omega
            have hinI : ¬ (m : Int) < (m : Int) := by omega
            have hind : decide ((m : Int) < (m : Int)) = false := decide_eq_false hinI
            clear hin hik him LIM
            have HB2 := HBB
            obtain ⟨wl, hwl⟩ : ∃ x, x = wr := ⟨_, rfl⟩
            subst hwl
            obtain ⟨gl1, hgl⟩ : ∃ x, x = gk := ⟨_, rfl⟩
            subst hgl
            go_upto_region 24 with fail
            clear z0 z1 y0 y1 hinI hind
            go_loopg [17] (m + 1) (fun g s17 wr => ∃ i : Nat, s17 = .int .i64 i ∧ i + g = m + 1 ∧ i ≤ m ∧ BlkW w P1 P2 m k A A' B B' c c' d d' L M L2 M2 lo1 lo2 m 0 i 0 wr)
            case atStart => exact ⟨0, rfl, by omega, by omega, HB2.out⟩
            case round =>
              obtain ⟨i, rfl, hik, him, hb⟩ := hrel
              have HIK := Lib.hid hik
              have HBB := Lib.hid hb
              have LIM := HLIM.out
              have z0 := hb.x.cells 0 _ rfl
              have z1 := hb.x.cells 1 _ rfl
              have y0 := hb.y.cells 0 _ rfl
              have y1 := hb.y.cells 1 _ rfl
              clear hb
              by_cases hin : i < m
              · have hinI : (i : Int) < (m : Int) := by omega
                have hind : decide ((i : Int) < (m : Int)) = true := decide_eq_true hinI
                have hi0 : (0 : Int) ≤ (i : Int) := by omega
                have wi : IntKind.i64.wrap ((i : Int) + 1) = (i : Int) + 1 := IntWalk.i64_in _ (by omega)
                have HIN := Lib.hid hin
                obtain ⟨b, v, hA, e1, e2, hb2⟩ := HBB.out.step2 hin
                have HA2 := Lib.hid hA
                have HB2 := Lib.hid hb2
                rw [hA] at y0
                clear hA hb2 hik him hin LIM
                go_wp2_with fail
                go_roundg (gk - 1)
                case measure => go_light; have h1 := HIK.out; have h2 := HIN.out; omega
                case rel => exact ⟨i + 1, by go_num, by have h1 := HIK.out; have h2 := HIN.out; go_light; omega, by have h2 := HIN.out; go_light; omega, HB2.out⟩
              · obtain rfl : m = i := by omega
                have hinI : ¬ (m : Int) < (m : Int) := by omega
                have hind : decide ((m : Int) < (m : Int)) = false := decide_eq_false hinI
                clear hin hik him LIM
                have HB3 := HBB
                obtain ⟨wl, hwl⟩ : ∃ x, x = wr := ⟨_, rfl⟩
                subst hwl
                obtain ⟨gl2, hgl⟩ : ∃ x, x = gk := ⟨_, rfl⟩
                subst hgl
                go_upto_region 28 with fail
                clear z0 z1 y0 y1 hinI hind
                go_loopg [18] (k + 1) (fun g s18 wr => ∃ i : Nat, s18 = .int .i64 i ∧ i + g = k + 1 ∧ i ≤ k ∧ BlkW w P1 P2 m k A A' B B' c c' d d' L M L2 M2 lo1 lo2 m i m 0 wr)
                case atStart => exact ⟨0, rfl, by omega, by omega, HB3.out⟩
                case round =>
                  obtain ⟨i, rfl, hik, him, hb⟩ := hrel
                  have HIK := Lib.hid hik
                  have HBB := Lib.hid hb
                  have LIM := HLIM.out
                  have z0 := hb.x.cells 0 _ rfl
                  have z1 := hb.x.cells 1 _ rfl
                  have y0 := hb.y.cells 0 _ rfl
                  have y1 := hb.y.cells 1 _ rfl
                  clear hb
                  by_cases hin : i < k
                  · have hinI : (i : Int) < (k : Int) := by omega
                    have hind : decide ((i : Int) < (k : Int)) = true := decide_eq_true hinI
                    have hi0 : (0 : Int) ≤ (i : Int) := by omega
                    have wi : IntKind.i64.wrap ((i : Int) + 1) = (i : Int) + 1 := IntWalk.i64_in _ (by omega)
                    have HIN := Lib.hid hin
                    obtain ⟨b, v, hA, e1, e2, hb2⟩ := HBB.out.step3 hin
                    have HA2 := Lib.hid hA
                    have HB2 := Lib.hid hb2
                    rw [hA] at z1
                    clear hA hb2 hik him hin LIM
                    go_wp2_with fail
                    go_roundg (gk - 1)
                    case measure => go_light; have h1 := HIK.out; have h2 := HIN.out; omega
                    case rel => exact ⟨i + 1, by go_num, by have h1 := HIK.out; have h2 := HIN.out; go_light; omega, by have h2 := HIN.out; go_light; omega, HB2.out⟩
                  · obtain rfl : k = i := by omega
                    have hinI : ¬ (k : Int) < (k : Int) := by omega
                    have hind : decide ((k : Int) < (k : Int)) = false := decide_eq_false hinI
                    clear hin hik him LIM
                    have HB4 := HBB
                    obtain ⟨wl, hwl⟩ : ∃ x, x = wr := ⟨_, rfl⟩
                    subst hwl
                    obtain ⟨gl3, hgl⟩ : ∃ x, x = gk := ⟨_, rfl⟩
                    subst hgl
                    go_upto_region 32 with fail
                    clear z0 z1 y0 y1 hinI hind
                    go_loopg [19] (k + 1) (fun g s19 wr => ∃ i : Nat, s19 = .int .i64 i ∧ i + g = k + 1 ∧ i ≤ k ∧ BlkW w P1 P2 m k A A' B B' c c' d d' L M L2 M2 lo1 lo2 m k m i wr)
                    case atStart => exact ⟨0, rfl, by omega, by omega, HB4.out⟩
                    case round =>
                      obtain ⟨i, rfl, hik, him, hb⟩ := hrel
                      have HIK := Lib.hid hik
                      have HBB := Lib.hid hb
                      have LIM := HLIM.out
                      have z0 := hb.x.cells 0 _ rfl
                      have z1 := hb.x.cells 1 _ rfl
                      have y0 := hb.y.cells 0 _ rfl
                      have y1 := hb.y.cells 1 _ rfl
                      clear hb
                      by_cases hin : i < k
                      · have hinI : (i : Int) < (k : Int) := by omega
                        have hind : decide ((i : Int) < (k : Int)) = true := decide_eq_true hinI
                        have hi0 : (0 : Int) ≤ (i : Int) := by omega
                        have wi : IntKind.i64.wrap ((i : Int) + 1) = (i : Int) + 1 := IntWalk.i64_in _ (by omega)
                        have HIN := Lib.hid hin
                        obtain ⟨b, v, hA, e1, e2, hb2⟩ := HBB.out.step4 hin
                        have HA2 := Lib.hid hA
                        have HB2 := Lib.hid hb2
                        rw [hA] at y1
                        clear hA hb2 hik him hin LIM
                        go_wp2_with fail
                        go_roundg (gk - 1)
                        case measure => go_light; have h1 := HIK.out; have h2 := HIN.out; omega
                        case rel => exact ⟨i + 1, by go_num, by have h1 := HIK.out; have h2 := HIN.out; go_light; omega, by have h2 := HIN.out; go_light; omega, HB2.out⟩
                      · obtain rfl : k = i := by omega
                        have hinI : ¬ (k : Int) < (k : Int) := by omega
                        have hind : decide ((k : Int) < (k : Int)) = false := decide_eq_false hinI
                        clear hin hik him LIM
                        have HB5 := HBB
                        obtain ⟨wl, hwl⟩ : ∃ x, x = wr := ⟨_, rfl⟩
                        subst hwl
                        obtain ⟨gl4, hgl⟩ : ∃ x, x = gk := ⟨_, rfl⟩
                        subst hgl
                        go_upto_region 35 with fail
                        clear z0 z1 y0 y1 hinI hind
                        have HS : Hid (TreeR 0 wl A A' (nd.map un) (fs.map unF) ∧ TreeR 0 wl B B' (nd.map un) (fs.map unF)) := Lib.hid (by
                          obtain ⟨g1, g2, g3, g4⟩ := HD4.out
                          have h := HB5.out
                          have t1 := h.t.toR h.l1.symm h.l2.symm
                          have t2 := h.u.toR h.l3.symm h.l4.symm
                          rw [g1, g2] at t1
                          rw [g3, g4, HND.out, HFS.out] at t2
                          exact ⟨t1, t2⟩)
                        have KB : Hid (Keeps (fun _ => False) w wl) := Lib.hid (kback HB5.out.kp rfl)
                        have QC : Hid (Calls Tryz.prog 10 #[.agg #[.slice A m c, .slice A' k c'], .agg #[.slice B m d, .slice B' k d']] wl fun e w' => e = .returned (.bool true) ∧ Keeps (fun _ => False) wl w') := Lib.hid (same_any A A' B B' c c' d d' m k (nd.map un) (fs.map unF) wl HS.out.1 HS.out.2 (by rw [List.length_map]; exact HM.out) (by rw [List.length_map]; exact HK.out) ⟨by have := HLIM.out.1; omega, fun x hx => by obtain ⟨y, hy, rfl⟩ := List.mem_map.1 hx; exact Nat.le_trans (HFit.out.kids y hy) (by omega)⟩ (by have := HLIM.out.2; omega) (fun x hx => by obtain ⟨y, hy, rfl⟩ := List.mem_map.1 hx; exact Nat.le_trans (HFit.out.prs y hy) (by omega)))
                        have z0 := HB5.out.x.cells 0 _ rfl
                        have z1 := HB5.out.x.cells 1 _ rfl
                        have y0 := HB5.out.y.cells 0 _ rfl
                        have y1 := HB5.out.y.cells 1 _ rfl
                        go_wp2_with fail
                        refine QC.out.mono ?_
                        rintro e wz ⟨rfl, kz⟩
                        have KZ := Lib.hid (KB.out.trans kz (fun _ _ h => h))
                        clear QC kz z0 z1 y0 y1 KB HS
                        go_wp2_with fail
                        go_ret
                        exact ⟨rfl, KZ.out⟩
  · have AC := Lib.hid (src_any a (by have := HSA.out; omega) res hres w1 (HE.out.keep K1.out))
    have hne : ((erOf res : Int) != 0) = true := by simp; omega
    generalize (ndsOf res).length = nm at AC
    generalize (fnsOf res).length = nk at AC
    generalize (atOf res : Int) = ax at AC
    generalize (erOf res : Int) = ex at AC hne
    generalize (resX a.data.toList).1 = T at LC
    generalize ((resX a.data.toList).2.1 : Int) = fy at LC
    generalize ((resX a.data.toList).2.2 : Int) = fx at LC
    generalize T.length = n at LC
    clear hres HRES he0
    go_wp2_with fail
    refine AC.out.mono ?_
    rintro e w3 ⟨A, c, A', c', rfl, hTr, k3⟩
    have K3 := Lib.hid (K1.out.trans k3 (fun _ _ h => h))
    clear AC K1 k3 hTr
    go_upto_region 5 with fail
    have ka := Keeps.one w3 (.cells #[.slice A nm c, .slice A' nk c'] 27)
    obtain ⟨w4, hw⟩ : ∃ w4, w4 = w3.alloc (.cells #[.slice A nm c, .slice A' nk c'] 27) := ⟨_, rfl⟩
    rw [← hw] at ka ⊢
    have K4 := Lib.hid (K3.out.trans ka (fun _ _ h => h))
    have LD := Lib.hid (LC.out w4)
    generalize w3.heap.size = X4
    clear ka hw LC K3
    go_wp2_with fail
    refine LD.out.mono ?_
    rintro e w5 ⟨B, d, rfl, hR, k5⟩
    have K5 := Lib.hid (K4.out.trans k5 (fun _ _ h => h))
    clear LD k5 K4 hR
    go_wp2_with fail
    go_ret
    exact ⟨rfl, K5.out⟩

end Go.Proofs.YtgelggdgbmldiaaGreatDoor

namespace Go.Proofs.YtgelggdgbmldiaaGreatDoor
open Go Go.RowKit Go.Shelf
set_option linter.unusedVariables false
set_option linter.unusedSimpArgs false


set_option maxRecDepth 100000 in
set_option maxHeartbeats 32000000 in
theorem blanks_walkB (s0 : ByteArray) (h0 : 300 < s0.size) (w : World) (he : ErrW w) : Calls Tryz.prog 5 #[.string s0] w fun e w' => e = .returned (.bool true) ∧ Keeps (fun _ => False) w w' := by
  have HC := Lib.hid (shown_any w he)
  have HE := Lib.hid he
  clear he
  go_enter Tryz.func5, Tryz.ntmps5
  go_wp2_with fail
  refine HC.out.mono ?_
  rintro e w1 ⟨rfl, k1⟩
  have K1 := Lib.hid k1
  clear HC k1
  have hIa : (300 : Int) < (s0.size : Int) := by omega
  have hJa : (300 : Int) ≤ (s0.size : Int) := by omega
  have hDa : decide ((300 : Int) < (s0.size : Int)) = true := decide_eq_true hIa
  obtain ⟨a, hva⟩ : ∃ m, m = s0.extract 0 300 := ⟨_, rfl⟩
  have HSA := Lib.hid (show a.size ≤ 300 by rw [hva, ByteArray.size_extract]; omega)
  clear h0
  go_upto_region 4 with fail
  rw [← hva]
  clear hIa hJa hDa hva
  obtain ⟨res, hres⟩ := allP_some a.data.toList 6100 (Nat.le_refl _)
  have HRES := Lib.hid hres
  have LC : Hid (∀ w3, Calls Tryz.prog 13 #[.string a] w3 fun e w' => ∃ A c, e = .returned (.tuple #[.slice A (resX a.data.toList).1.length c, .int .i64 ((resX a.data.toList).2.1 : Int), .int .i64 ((resX a.data.toList).2.2 : Int)]) ∧ RdT w' A (resX a.data.toList).1 ∧ Keeps (fun _ => False) w3 w') := Lib.hid fun w3 => rlex_any a (by have := HSA.out; omega) w3
  by_cases he0 : erOf res = 0
  · obtain ⟨nd, fs, rfl⟩ := er_tree hres he0
    obtain ⟨ini, htk, hn6, hjl, nd', fs', hbl, hnd, hfs⟩ := toks_data _ nd fs hres (by rw [len_size]; exact HSA.out)
    rw [htk] at LC
    have HFit : Hid (Fit nd fs) := Lib.hid (fit_of hres)
    have HJL := Lib.hid hjl
    have HBL := Lib.hid hbl
    have HND := Lib.hid hnd
    have HFS := Lib.hid hfs
    obtain ⟨n, hn⟩ : ∃ n, n = ini.length := ⟨_, rfl⟩
    obtain ⟨T, hT⟩ : ∃ T, T = ini ++ [(⟨0, [], 0 + a.data.toList.length⟩ : Tok)] := ⟨_, rfl⟩
    have hTl : T.length = n + 1 := by rw [hT, List.length_append, hn]; rfl
    have hget : ∀ i, i < n → T.getD i default = ini.getD i default := fun i hi => by
      rw [hT, List.getD, List.getD, List.getElem?_append_left (by omega)]
    have HGET := Lib.hid hget
    have HTL := Lib.hid hTl
    have HN := Lib.hid hn
    have hn6 : n ≤ 600 := by omega
    obtain ⟨m, hm⟩ : ∃ m, m = nd.length := ⟨_, rfl⟩
    obtain ⟨k, hk⟩ : ∃ k, k = fs.length := ⟨_, rfl⟩
    have HLIM : Hid (m ≤ 300 ∧ k ≤ 6) := Lib.hid ⟨by rw [hm]; exact HFit.out.nds, by rw [hk]; exact HFit.out.fns⟩
    have hm2 : nd'.length = m := by have := congrArg List.length hnd; rw [List.length_map, List.length_map] at this; omega
    have hk2 : fs'.length = k := by have := congrArg List.length hfs; rw [List.length_map, List.length_map] at this; omega
    have HM := Lib.hid hm
    have HK := Lib.hid hk
    have AC := Lib.hid (srcX a nd fs hres w1 (HE.out.keep K1.out))
    have BC : Hid (∀ (g : ByteArray) w6, g.data.toList = joinN ini → Keeps (fun _ => False) w w6 → Calls Tryz.prog 8 #[.string g] w6 fun e w' => ∃ A c A' c', e = .returned (.tuple #[.agg #[.slice A m c, .slice A' k c'], .int .i64 0, .int .i64 0]) ∧ (∃ L M, L.map NM.d = nd' ∧ M.map FM.d = fs' ∧ TreeW w6.heap.size w'.heap.size w' A A' L M 0 0) ∧ Keeps (fun _ => False) w6 w') := Lib.hid (by
      intro g w6 hg k6
      rw [← hm2, ← hk2]
      exact srcX g nd' fs' (by rw [hg]; exact HBL.out) w6 (HE.out.keep k6))
    rw [← hm, ← hk] at AC
    rw [← hT, hTl] at LC
    clear hm hk hm2 hk2 hn hT hTl hget hnd hfs hbl hjl htk hres HRES he0
    go_wp2_with fail
    refine AC.out.mono ?_
    rintro e w3 ⟨A, c, A', c', rfl, hTr, k3⟩
    have K3 := Lib.hid (K1.out.trans k3 (fun _ _ h => h))
    have HT3 := Lib.hid hTr
    have HLO : Hid (w.heap.size ≤ w1.heap.size) := Lib.hid K1.out.size
    clear AC K1 k3 hTr
    go_upto_region 5 with fail
    have ka := Keeps.one w3 (.cells #[.slice A m c, .slice A' k c'] 27)
    obtain ⟨P1, hP1⟩ : ∃ X, X = w3.heap.size := ⟨_, rfl⟩
    obtain ⟨w4, hw⟩ : ∃ w4, w4 = w3.alloc (.cells #[.slice A m c, .slice A' k c'] 27) := ⟨_, rfl⟩
    have HX4 : Hid (Loc w4 (fun _ => False) P1 [.slice A m c, .slice A' k c']) := Lib.hid (by rw [hw, hP1]; exact Loc.new (fun h => h) [.slice A m c, .slice A' k c'] 27)
    have HT4 : Hid (∃ L M, L.map NM.d = nd ∧ M.map FM.d = fs ∧ TreeW w1.heap.size P1 w4 A A' L M 0 0) := Lib.hid (by
      obtain ⟨L, M, h1, h2, h3⟩ := HT3.out
      rw [← hP1] at h3
      refine ⟨L, M, h1, h2, ?_⟩
      rw [hw]
      exact h3.keep ka)
    have HO4 : Hid (w.heap.size ≤ P1) := Lib.hid (by rw [hP1]; exact K3.out.size)
    rw [← hP1]
    rw [← hw] at ka ⊢
    have K4 := Lib.hid (K3.out.trans ka (fun _ _ h => h))
    have LD := Lib.hid (LC.out w4)
    clear ka hw LC K3 HT3 hP1
    go_wp2_with fail
    refine LD.out.mono ?_
    rintro e w5 ⟨D, dd, rfl, hR, k5⟩
    have K5 := Lib.hid (K4.out.trans k5 (fun _ _ h => h))
    have HR := Lib.hid hR
    have HX5 := Lib.hid (HX4.out.keeps k5)
    have HT5 : Hid (∃ L M, L.map NM.d = nd ∧ M.map FM.d = fs ∧ TreeW w1.heap.size P1 w5 A A' L M 0 0) := Lib.hid (by
      obtain ⟨L, M, h1, h2, h3⟩ := HT4.out
      exact ⟨L, M, h1, h2, h3.keep k5⟩)
    clear LD k5 K4 hR HX4 HT4
    go_upto_region 10 with fail
    go_loopg [10, 11, 12] (n + 1) (fun q s10 s11 s12 wr => ∃ (i : Nat) (g : ByteArray), s10 = .string g ∧ s11 = .int .i64 i ∧ i + q = n + 1 ∧ i ≤ n ∧ g.data.toList = joinN (ini.take i) ∧ Keeps (fun _ => False) w5 wr)
    case atStart => exact ⟨0, _, rfl, rfl, by omega, by omega, rfl, Keeps.refl _ _⟩
    case round =>
      obtain ⟨i, g, rfl, rfl, hiq, hin1, hg, kr⟩ := hrel
      have KR := Lib.hid kr
      have HIQ := Lib.hid hiq
      have HG := Lib.hid hg
      have hgs : g.size ≤ 600 := by rw [← len_size, hg]; exact HJL.out i (by rw [← HN.out]; exact hin1)
      have HRr := Lib.hid (HR.out.keep kr)
      have sw : IntKind.i64.wrap (((n + 1 : Nat) : Int) - 1) = (n : Int) := by rw [IntWalk.i64_in _ (by omega)]; omega
      clear hiq hg kr
      by_cases hin : i < n
      · have hI : (i : Int) < (n : Int) := by omega
        have hdI : decide ((i : Int) < (n : Int)) = true := decide_eq_true hI
        have hI1 : (i : Int) < ((n + 1 : Nat) : Int) := by omega
        have hi0 : (0 : Int) ≤ (i : Int) := by omega
        have wi : IntKind.i64.wrap ((i : Int) + 1) = (i : Int) + 1 := IntWalk.i64_in _ (by omega)
        have HIN := Lib.hid hin
        have hL : i < T.length := by rw [HTL.out]; omega
        obtain ⟨bk, off, hD, hc⟩ := HRr.out (by omega)
        obtain ⟨c0, c1, -⟩ := hc i hL
        rw [HGET.out i hin] at c0 c1
        obtain ⟨tk, htk⟩ : ∃ t : Tok, t = ini.getD i default := ⟨_, rfl⟩
        have hnx := joinN_next (ts := ini) (i := i) (by rw [← HN.out]; exact hin)
        have hjn := HJL.out (i + 1) (by rw [← HN.out]; omega)
        rw [← htk] at c0 c1 hnx
        obtain ⟨tk, tx, tp⟩ := tk
        replace c0 : wr.cell? ⟨bk, off + i * 3, none⟩ = some (.int .i64 (tk : Int)) := c0
        replace c1 : wr.cell? ⟨bk, off + i * 3 + 1, none⟩ = some (.string (ofL tx)) := c1
        obtain ⟨Tx, hTx⟩ : ∃ T : ByteArray, T = ofL tx := ⟨_, rfl⟩
        have hTl : Tx.data.toList = tx := by rw [hTx]; exact ofL_list tx
        rw [← hTx] at c1
        subst hD
        rw [hnx, List.length_append, List.length_append, ← HG.out, len_size] at hjn
        clear hc htk hTx hL hin1
        by_cases h2 : tk = 2
        · have q2 : ((tk : Int) == 2) = true := by simp; omega
          have htb : tokB (⟨tk, tx, tp⟩ : Tok) = 34 :: (tx ++ [34]) := if_pos h2
          have hts : Tx.size + 2 + g.size ≤ 599 := by
            rw [htb, ← hTl, List.length_cons, List.length_append, len_size] at hjn
            have : ([34] : List UInt8).length = 1 := rfl
            have : ([10] : List UInt8).length = 1 := rfl
            omega
          have q3 : ¬ 9223372036854775807 < 1 + Tx.size := by omega
          have q4 : ¬ 9223372036854775807 < 1 + Tx.size + 1 := by omega
          have q5 : ¬ 9223372036854775807 < g.size + (1 + Tx.size + 1) := by omega
          have q6 : ¬ 9223372036854775807 < g.size + (1 + Tx.size + 1) + 1 := by omega
          have HM : Hid ((g ++ ({ data := #[34] } ++ Tx ++ { data := #[34] }) ++ { data := #[10] }).data.toList = joinN (ini.take (i + 1))) := by
            rw [hnx, htb, bap_list, bap_list, bap_list, bap_list, HG.out, hTl]
            exact Lib.hid rfl
          clear hnx hTl h2 htb hjn
          go_wp2_with fail
          go_roundg (gk - 1)
          case measure => go_light; have h1 := HIQ.out; have h2 := HIN.out; omega
          case rel => exact ⟨i + 1, _, rfl, by go_num, by have h1 := HIQ.out; have h2 := HIN.out; go_light; omega, by have h2 := HIN.out; go_light; omega, HM.out, by first | exact KR.out | exact KR.out.drew⟩
        · have q2 : ((tk : Int) == 2) = false := by simp; omega
          have htb : tokB (⟨tk, tx, tp⟩ : Tok) = tx := if_neg h2
          have hts : Tx.size + g.size ≤ 599 := by
            rw [htb, ← hTl, len_size] at hjn
            have : ([10] : List UInt8).length = 1 := rfl
            omega
          have q5 : ¬ 9223372036854775807 < g.size + Tx.size := by omega
          have q6 : ¬ 9223372036854775807 < g.size + Tx.size + 1 := by omega
          have HM : Hid ((g ++ Tx ++ { data := #[10] }).data.toList = joinN (ini.take (i + 1))) := by
            rw [hnx, htb, bap_list, bap_list, HG.out, hTl]
            exact Lib.hid rfl
          clear hnx hTl h2 htb hjn
          go_wp2_with fail
          go_roundg (gk - 1)
          case measure => go_light; have h1 := HIQ.out; have h2 := HIN.out; omega
          case rel => exact ⟨i + 1, _, rfl, by go_num, by have h1 := HIQ.out; have h2 := HIN.out; go_light; omega, by have h2 := HIN.out; go_light; omega, HM.out, by first | exact KR.out | exact KR.out.drew⟩
      · obtain rfl : i = n := by omega
        have hI : ¬ (i : Int) < (i : Int) := by omega
        have hdI : decide ((i : Int) < (i : Int)) = false := decide_eq_false hI
        have hgl : g.data.toList = joinN ini := by rw [HG.out, HN.out, List.take_length]
        have K6 := Lib.hid (K5.out.trans KR.out (fun _ _ h => h))
        have BD := Lib.hid (BC.out g wr hgl K6.out)
        have HX6 := Lib.hid (HX5.out.keeps KR.out)
        have HT6 : Hid (∃ L M, L.map NM.d = nd ∧ M.map FM.d = fs ∧ TreeW w1.heap.size P1 wr A A' L M 0 0) := Lib.hid (by
          obtain ⟨L, M, h1, h2, h3⟩ := HT5.out
          exact ⟨L, M, h1, h2, h3.keep KR.out⟩)
        have HO6 : Hid (P1 < wr.heap.size) := Lib.hid HX6.out.lt
        have hgb : ¬ (600 : Int) < (g.size : Int) := by omega
        have hgd : decide ((600 : Int) < (g.size : Int)) = false := decide_eq_false hgb
        obtain ⟨wo, hwo⟩ : ∃ x, x = wr := ⟨_, rfl⟩
        subst hwo
        obtain ⟨gl0, hgl0⟩ : ∃ x, x = gk := ⟨_, rfl⟩
        subst hgl0
        clear hgl BC HT5 HX5 hin hgs hin1 HG HJL
        go_wp2_with fail
        refine BD.out.mono ?_
        rintro e w7 ⟨B, d, B', d', rfl, hU, k7⟩
        have K7 := Lib.hid (K6.out.trans k7 (fun _ _ h => h))
        have HX7 := Lib.hid (HX6.out.keeps k7)
        obtain ⟨lo1, hlo1⟩ : ∃ x, x = w1.heap.size := ⟨_, rfl⟩
        obtain ⟨lo2, hlo2⟩ : ∃ x, x = wo.heap.size := ⟨_, rfl⟩
        rw [← hlo1] at HT6 HLO
        rw [← hlo2] at hU HO6
        have HU7 := Lib.hid hU
        have HT7 : Hid (∃ L M, L.map NM.d = nd ∧ M.map FM.d = fs ∧ TreeW lo1 P1 w7 A A' L M 0 0) := Lib.hid (by
          obtain ⟨L, M, h1, h2, h3⟩ := HT6.out
          exact ⟨L, M, h1, h2, h3.keep k7⟩)
        have HO7 : Hid (P1 < w7.heap.size) := Lib.hid HX7.out.lt
        clear BD k7 hU HX6 HT6 K6 hlo1 hlo2 hI hdI sw K5 HR HRr KR
        go_upto_region 17 with fail
        have ka := Keeps.one w7 (.cells #[.slice B m d, .slice B' k d'] 27)
        obtain ⟨P2, hP2⟩ : ∃ X, X = w7.heap.size := ⟨_, rfl⟩
        obtain ⟨w8, hw⟩ : ∃ w8, w8 = w7.alloc (.cells #[.slice B m d, .slice B' k d'] 27) := ⟨_, rfl⟩
        have HY8 : Hid (Loc w8 (fun _ => False) P2 [.slice B m d, .slice B' k d']) := Lib.hid (by rw [hw, hP2]; exact Loc.new (fun h => h) [.slice B m d, .slice B' k d'] 27)
        rw [← hP2]
        rw [← hw] at ka ⊢
        have HBALL : Hid (∃ L M L2 M2, L.map NM.d = nd ∧ M.map FM.d = fs ∧ L2.map NM.d = nd' ∧ M2.map FM.d = fs' ∧ BlkW w P1 P2 m k A A' B B' c c' d d' L M L2 M2 lo1 lo2 0 0 0 0 w8) := Lib.hid (by
          obtain ⟨L, M, h1, h2, h3⟩ := HT7.out
          obtain ⟨L2, M2, h4, h5, h6⟩ := HU7.out
          have e1 := congrArg List.length HND.out
          have e2 := congrArg List.length HFS.out
          rw [List.length_map, List.length_map] at e1 e2
          rw [← hP2] at h6
          refine ⟨L, M, L2, M2, h1, h2, h4, h5, { x := HX7.out.keeps ka, y := HY8.out, t := h3.keep ka, u := h6.keep ka, kp := ((K7.out.trans ka (fun _ _ h => h)).mono (fun _ _ h => h.elim)), o1 := HLO.out, o2 := HO6.out, o3 := by rw [hP2]; exact HO7.out, o4 := HO4.out, l1 := ?_, l2 := ?_, l3 := ?_, l4 := ?_ }⟩
          · rw [HM.out, ← h1, List.length_map]
          · rw [HK.out, ← h2, List.length_map]
          · rw [HM.out, ← e1, ← h4, List.length_map]
          · rw [HK.out, ← e2, ← h5, List.length_map])
        obtain ⟨L, M, L2, M2, g1, g2, g3, g4, g5⟩ := HBALL.out
        have HB1 := Lib.hid g5
        have HD4 : Hid (L.map NM.d = nd ∧ M.map FM.d = fs ∧ L2.map NM.d = nd' ∧ M2.map FM.d = fs') := Lib.hid ⟨g1, g2, g3, g4⟩
        clear ka hw hP2 g1 g2 g3 g4 g5 HBALL HY8 HX7 HT7 HU7 HO6 HO7 HO4 HLO K7
        go_upto_region 20 with fail
        clear hgb hgd
        go_loopg [16] (m + 1) (fun g s16 wr => ∃ i : Nat, s16 = .int .i64 i ∧ i + g = m + 1 ∧ i ≤ m ∧ BlkW w P1 P2 m k A A' B B' c c' d d' L M L2 M2 lo1 lo2 i 0 0 0 wr)
        case atStart => exact ⟨0, rfl, by omega, by omega, HB1.out⟩
        case round =>
          obtain ⟨i, rfl, hik, him, hb⟩ := hrel
          have HIK := Lib.hid hik
          have HBB := Lib.hid hb
          have LIM := HLIM.out
          have z0 := hb.x.cells 0 _ rfl
          have z1 := hb.x.cells 1 _ rfl
          have y0 := hb.y.cells 0 _ rfl
          have y1 := hb.y.cells 1 _ rfl
          clear hb
          by_cases hin : i < m
          · have hinI : (i : Int) < (m : Int) := by omega
            have hind : decide ((i : Int) < (m : Int)) = true := decide_eq_true hinI
            have hi0 : (0 : Int) ≤ (i : Int) := by omega
            have wi : IntKind.i64.wrap ((i : Int) + 1) = (i : Int) + 1 := IntWalk.i64_in _ (by omega)
            have HIN := Lib.hid hin
            obtain ⟨b, v, hA, e1, e2, hb2⟩ := HBB.out.step1 hin
            have HA2 := Lib.hid hA
            have HB2 := Lib.hid hb2
            rw [hA] at z0
            clear hA hb2 hik him hin LIM
            go_wp2_with fail
            go_roundg (gk - 1)
            case measure => go_light; have h1 := HIK.out; have h2 := HIN.out; omega
            case rel => exact ⟨i + 1, by go_num, by have h1 := HIK.out; have h2 := HIN.out; go_light; omega, by have h2 := HIN.out; go_light; omega, HB2.out⟩
          · obtain rfl : m = i := by omega
            have hinI : ¬ (m : Int) < (m : Int) := by omega
            have hind : decide ((m : Int) < (m : Int)) = false := decide_eq_false hinI
            clear hin hik him LIM
            have HB2 := HBB
            obtain ⟨wl, hwl⟩ : ∃ x, x = wr := ⟨_, rfl⟩
            subst hwl
            obtain ⟨gl1, hgl⟩ : ∃ x, x = gk := ⟨_, rfl⟩
            subst hgl
            go_upto_region 24 with fail
            clear z0 z1 y0 y1 hinI hind
            go_loopg [17] (m + 1) (fun g s17 wr => ∃ i : Nat, s17 = .int .i64 i ∧ i + g = m + 1 ∧ i ≤ m ∧ BlkW w P1 P2 m k A A' B B' c c' d d' L M L2 M2 lo1 lo2 m 0 i 0 wr)
            case atStart => exact ⟨0, rfl, by omega, by omega, HB2.out⟩
            case round =>
              obtain ⟨i, rfl, hik, him, hb⟩ := hrel
              have HIK := Lib.hid hik
              have HBB := Lib.hid hb
              have LIM := HLIM.out
              have z0 := hb.x.cells 0 _ rfl
              have z1 := hb.x.cells 1 _ rfl
              have y0 := hb.y.cells 0 _ rfl
              have y1 := hb.y.cells 1 _ rfl
              clear hb
              by_cases hin : i < m
              · have hinI : (i : Int) < (m : Int) := by omega
                have hind : decide ((i : Int) < (m : Int)) = true := decide_eq_true hinI
                have hi0 : (0 : Int) ≤ (i : Int) := by omega
                have wi : IntKind.i64.wrap ((i : Int) + 1) = (i : Int) + 1 := IntWalk.i64_in _ (by omega)
                have HIN := Lib.hid hin
                obtain ⟨b, v, hA, e1, e2, hb2⟩ := HBB.out.step2 hin
                have HA2 := Lib.hid hA
                have HB2 := Lib.hid hb2
                rw [hA] at y0
                clear hA hb2 hik him hin LIM
                go_wp2_with fail
                go_roundg (gk - 1)
                case measure => go_light; have h1 := HIK.out; have h2 := HIN.out; omega
                case rel => exact ⟨i + 1, by go_num, by have h1 := HIK.out; have h2 := HIN.out; go_light; omega, by have h2 := HIN.out; go_light; omega, HB2.out⟩
              · obtain rfl : m = i := by omega
                have hinI : ¬ (m : Int) < (m : Int) := by omega
                have hind : decide ((m : Int) < (m : Int)) = false := decide_eq_false hinI
                clear hin hik him LIM
                have HB3 := HBB
                obtain ⟨wl, hwl⟩ : ∃ x, x = wr := ⟨_, rfl⟩
                subst hwl
                obtain ⟨gl2, hgl⟩ : ∃ x, x = gk := ⟨_, rfl⟩
                subst hgl
                go_upto_region 28 with fail
                clear z0 z1 y0 y1 hinI hind
                go_loopg [18] (k + 1) (fun g s18 wr => ∃ i : Nat, s18 = .int .i64 i ∧ i + g = k + 1 ∧ i ≤ k ∧ BlkW w P1 P2 m k A A' B B' c c' d d' L M L2 M2 lo1 lo2 m i m 0 wr)
                case atStart => exact ⟨0, rfl, by omega, by omega, HB3.out⟩
                case round =>
                  obtain ⟨i, rfl, hik, him, hb⟩ := hrel
                  have HIK := Lib.hid hik
                  have HBB := Lib.hid hb
                  have LIM := HLIM.out
                  have z0 := hb.x.cells 0 _ rfl
                  have z1 := hb.x.cells 1 _ rfl
                  have y0 := hb.y.cells 0 _ rfl
                  have y1 := hb.y.cells 1 _ rfl
                  clear hb
                  by_cases hin : i < k
                  · have hinI : (i : Int) < (k : Int) := by omega
                    have hind : decide ((i : Int) < (k : Int)) = true := decide_eq_true hinI
                    have hi0 : (0 : Int) ≤ (i : Int) := by omega
                    have wi : IntKind.i64.wrap ((i : Int) + 1) = (i : Int) + 1 := IntWalk.i64_in _ (by omega)
                    have HIN := Lib.hid hin
                    obtain ⟨b, v, hA, e1, e2, hb2⟩ := HBB.out.step3 hin
                    have HA2 := Lib.hid hA
                    have HB2 := Lib.hid hb2
                    rw [hA] at z1
                    clear hA hb2 hik him hin LIM
                    go_wp2_with fail
                    go_roundg (gk - 1)
                    case measure => go_light; have h1 := HIK.out; have h2 := HIN.out; omega
                    case rel => exact ⟨i + 1, by go_num, by have h1 := HIK.out; have h2 := HIN.out; go_light; omega, by have h2 := HIN.out; go_light; omega, HB2.out⟩
                  · obtain rfl : k = i := by omega
                    have hinI : ¬ (k : Int) < (k : Int) := by omega
                    have hind : decide ((k : Int) < (k : Int)) = false := decide_eq_false hinI
                    clear hin hik him LIM
                    have HB4 := HBB
                    obtain ⟨wl, hwl⟩ : ∃ x, x = wr := ⟨_, rfl⟩
                    subst hwl
                    obtain ⟨gl3, hgl⟩ : ∃ x, x = gk := ⟨_, rfl⟩
                    subst hgl
                    go_upto_region 32 with fail
                    clear z0 z1 y0 y1 hinI hind
                    go_loopg [19] (k + 1) (fun g s19 wr => ∃ i : Nat, s19 = .int .i64 i ∧ i + g = k + 1 ∧ i ≤ k ∧ BlkW w P1 P2 m k A A' B B' c c' d d' L M L2 M2 lo1 lo2 m k m i wr)
                    case atStart => exact ⟨0, rfl, by omega, by omega, HB4.out⟩
                    case round =>
                      obtain ⟨i, rfl, hik, him, hb⟩ := hrel
                      have HIK := Lib.hid hik
                      have HBB := Lib.hid hb
                      have LIM := HLIM.out
                      have z0 := hb.x.cells 0 _ rfl
                      have z1 := hb.x.cells 1 _ rfl
                      have y0 := hb.y.cells 0 _ rfl
                      have y1 := hb.y.cells 1 _ rfl
                      clear hb
                      by_cases hin : i < k
                      · have hinI : (i : Int) < (k : Int) := by omega
                        have hind : decide ((i : Int) < (k : Int)) = true := decide_eq_true hinI
                        have hi0 : (0 : Int) ≤ (i : Int) := by omega
                        have wi : IntKind.i64.wrap ((i : Int) + 1) = (i : Int) + 1 := IntWalk.i64_in _ (by omega)
                        have HIN := Lib.hid hin
                        obtain ⟨b, v, hA, e1, e2, hb2⟩ := HBB.out.step4 hin
                        have HA2 := Lib.hid hA
                        have HB2 := Lib.hid hb2
                        rw [hA] at y1
                        clear hA hb2 hik him hin LIM
                        go_wp2_with fail
                        go_roundg (gk - 1)
                        case measure => go_light; have h1 := HIK.out; have h2 := HIN.out; omega
                        case rel => exact ⟨i + 1, by go_num, by have h1 := HIK.out; have h2 := HIN.out; go_light; omega, by have h2 := HIN.out; go_light; omega, HB2.out⟩
                      · obtain rfl : k = i := by omega
                        have hinI : ¬ (k : Int) < (k : Int) := by omega
                        have hind : decide ((k : Int) < (k : Int)) = false := decide_eq_false hinI
                        clear hin hik him LIM
                        have HB5 := HBB
                        obtain ⟨wl, hwl⟩ : ∃ x, x = wr := ⟨_, rfl⟩
                        subst hwl
                        obtain ⟨gl4, hgl⟩ : ∃ x, x = gk := ⟨_, rfl⟩
                        subst hgl
                        go_upto_region 35 with fail
                        clear z0 z1 y0 y1 hinI hind
                        have HS : Hid (TreeR 0 wl A A' (nd.map un) (fs.map unF) ∧ TreeR 0 wl B B' (nd.map un) (fs.map unF)) := Lib.hid (by
                          obtain ⟨g1, g2, g3, g4⟩ := HD4.out
                          have h := HB5.out
                          have t1 := h.t.toR h.l1.symm h.l2.symm
                          have t2 := h.u.toR h.l3.symm h.l4.symm
                          rw [g1, g2] at t1
                          rw [g3, g4, HND.out, HFS.out] at t2
                          exact ⟨t1, t2⟩)
                        have KB : Hid (Keeps (fun _ => False) w wl) := Lib.hid (kback HB5.out.kp rfl)
                        have QC : Hid (Calls Tryz.prog 10 #[.agg #[.slice A m c, .slice A' k c'], .agg #[.slice B m d, .slice B' k d']] wl fun e w' => e = .returned (.bool true) ∧ Keeps (fun _ => False) wl w') := Lib.hid (same_any A A' B B' c c' d d' m k (nd.map un) (fs.map unF) wl HS.out.1 HS.out.2 (by rw [List.length_map]; exact HM.out) (by rw [List.length_map]; exact HK.out) ⟨by have := HLIM.out.1; omega, fun x hx => by obtain ⟨y, hy, rfl⟩ := List.mem_map.1 hx; exact Nat.le_trans (HFit.out.kids y hy) (by omega)⟩ (by have := HLIM.out.2; omega) (fun x hx => by obtain ⟨y, hy, rfl⟩ := List.mem_map.1 hx; exact Nat.le_trans (HFit.out.prs y hy) (by omega)))
                        have z0 := HB5.out.x.cells 0 _ rfl
                        have z1 := HB5.out.x.cells 1 _ rfl
                        have y0 := HB5.out.y.cells 0 _ rfl
                        have y1 := HB5.out.y.cells 1 _ rfl
                        go_wp2_with fail
                        refine QC.out.mono ?_
                        rintro e wz ⟨rfl, kz⟩
                        have KZ := Lib.hid (KB.out.trans kz (fun _ _ h => h))
                        clear QC kz z0 z1 y0 y1 KB HS
                        go_wp2_with fail
                        go_ret
                        exact ⟨rfl, KZ.out⟩
  · have AC := Lib.hid (src_any a (by have := HSA.out; omega) res hres w1 (HE.out.keep K1.out))
    have hne : ((erOf res : Int) != 0) = true := by simp; omega
    generalize (ndsOf res).length = nm at AC
    generalize (fnsOf res).length = nk at AC
    generalize (atOf res : Int) = ax at AC
    generalize (erOf res : Int) = ex at AC hne
    generalize (resX a.data.toList).1 = T at LC
    generalize ((resX a.data.toList).2.1 : Int) = fy at LC
    generalize ((resX a.data.toList).2.2 : Int) = fx at LC
    generalize T.length = n at LC
    clear hres HRES he0
    go_wp2_with fail
    refine AC.out.mono ?_
    rintro e w3 ⟨A, c, A', c', rfl, hTr, k3⟩
    have K3 := Lib.hid (K1.out.trans k3 (fun _ _ h => h))
    clear AC K1 k3 hTr
    go_upto_region 5 with fail
    have ka := Keeps.one w3 (.cells #[.slice A nm c, .slice A' nk c'] 27)
    obtain ⟨w4, hw⟩ : ∃ w4, w4 = w3.alloc (.cells #[.slice A nm c, .slice A' nk c'] 27) := ⟨_, rfl⟩
    rw [← hw] at ka ⊢
    have K4 := Lib.hid (K3.out.trans ka (fun _ _ h => h))
    have LD := Lib.hid (LC.out w4)
    generalize w3.heap.size = X4
    clear ka hw LC K3
    go_wp2_with fail
    refine LD.out.mono ?_
    rintro e w5 ⟨B, d, rfl, hR, k5⟩
    have K5 := Lib.hid (K4.out.trans k5 (fun _ _ h => h))
    clear LD k5 K4 hR
    go_wp2_with fail
    go_ret
    exact ⟨rfl, K5.out⟩

end Go.Proofs.YtgelggdgbmldiaaGreatDoor

namespace Go.Proofs.YtgelggdgbmldiaaGreatDoor
open Go Go.RowKit Go.Shelf

theorem blanks_walk (s0 : ByteArray) (w : World) (he : ErrW w) : Calls Tryz.prog 5 #[.string s0] w fun e w' => e = .returned (.bool true) ∧ Keeps (fun _ => False) w w' := by
  by_cases h0 : 300 < s0.size
  · exact blanks_walkB s0 h0 w he
  · exact blanks_walkS s0 h0 w he

end Go.Proofs.YtgelggdgbmldiaaGreatDoor

namespace Go.Proofs.YtgelggdgbmldiaaGreatDoor
open Go Go.ChangeShapes Go.RowKit
set_option linter.unusedVariables false

theorem gErr : Tryz.prog.globalNamed "strconv.ErrRange" = some 2 := by kernel_rfl
theorem gErrType : (Tryz.prog.globals[2]?).map (·.type) = some 84 := by kernel_rfl
theorem cellsErr : Tryz.prog.cellsOf 111 = 1 := by kernel_rfl
theorem cells9s : Tryz.prog.cellsOf 9 = 1 := by kernel_rfl
theorem starErr : "*" ++ "errors.errorString" = "*errors.errorString" := by decide
theorem rowErr (u : TypeId) (h : Tryz.prog.typeName? 3 u = some "*errors.errorString") : u = 109 :=
  typeName_ptr_named (nm := "errors.errorString") (by rw [starErr]; kernel_rfl) (by kernel_rfl) (by decide) u (by rw [starErr]; exact h)

theorem errW_of_laid {W : World} (h : laidMetH Tryz.prog Rows.parseAllRow.laid W) : ErrW W := by
  rw [MakeChecks.laidMetH_plain _ _ _ (by kernel_rfl)] at h
  have h2 := laidMet.tail (laidMet.tail (laidMet.tail h))
  obtain ⟨a, s, hv, _, _, _⟩ := laid_sentinel h2 gErr gErrType Tryz.underlying84 rowErr Tryz.underlying109 Tryz.underlying111 rfl rfl Tryz.underlying9 cellsErr cells9s
  refine ⟨2, 109, _, gErr, ?_, hv⟩
  have h0 := World.var?_cell gErr hv 0
  exact World.block_lt_of_cell? W ⟨2, 0, none⟩ (by simpa using h0)

theorem below_of {f : Nat} {args : Array Value} {W : World} (h : Calls Tryz.prog f args W fun e w' => e = .returned (.bool true) ∧ Keeps (fun _ => False) W w') : Calls Tryz.prog f args W fun e w' => e = .returned (.bool true) ∧ Below W.heap.size W w' :=
  h.mono fun e w' h => ⟨h.1, h.2.toBelow (Nat.le_refl _) (fun _ h => h.elim)⟩

end Go.Proofs.YtgelggdgbmldiaaGreatDoor
