/-
  Layer 1: the contract of the document's token at a place: names. Written by an AI agent.
  Layer 1: the contract of the document's token at a place: texts. Written by an AI agent.
  Layer 1: the contract of the document's token at a place: signs. Written by an AI agent.
  Layer 1: the contract of the document's All. Written by an AI agent.
-/
import Derived.Test.YtgelggdgbmldiaaDoorMkbe
namespace Go.Proofs.YtgelggdgbmldiaaDoor
open Go.RowKit Go.Shelf
set_option linter.unusedVariables false
set_option linter.unusedSimpArgs false
set_option maxRecDepth 100000 in
set_option maxHeartbeats 8000000 in
theorem one_name (s : ByteArray) (hs : s.size ≤ 1000) (i : Nat) (hi : i < s.size) (hd : dig s[i] = false) (hlt : ltr s[i] = true) (w : World) : Calls Tryd.prog 57 #[.string s, .int .i64 i] w (OneR s.data.toList i w) := by
  obtain ⟨l, hl⟩ : ∃ l : List UInt8, l = s.data.toList := ⟨_, rfl⟩
  have hlen : l.length = s.size := by rw [hl, len_size]
  rw [← hl]
  obtain ⟨r, hr⟩ : ∃ r, r = l.drop i := ⟨_, rfl⟩
  have hrc : r = s[i] :: l.drop (i + 1) := by rw [hr]; exact drop_at hl hi
  have hF : firstL r = nameL r := by rw [hrc, firstL_cons, if_neg (by rw [hd]; decide), if_pos hlt]
  have hrl : r.length = s.size - i := by rw [hr, List.length_drop, hlen]
  have hiI : (i : Int) < (s.size : Int) := by omega
  have hi0 : (0 : Int) ≤ (i : Int) := by omega
  have DC : Hid (∀ (w : World) (c : UInt8), Calls Tryd.prog 86 #[.int .u8 (c.toNat : Int)] w fun e w' => e = .returned (.bool (dig c)) ∧ w' = w) := Lib.hid rdig
  have LC : Hid (∀ (w : World) (c : UInt8), Calls Tryd.prog 88 #[.int .u8 (c.toNat : Int)] w fun e w' => e = .returned (.bool (ltr c)) ∧ w' = w) := Lib.hid rltr
  have D0 : Hid (Calls Tryd.prog 86 #[.int .u8 (s[i].toNat : Int)] (w.alloc (.cells #[.int .i64 0, .string { data := #[] }, .int .i64 0] 54)) fun e w' => e = .returned (.bool false) ∧ w' = w.alloc (.cells #[.int .i64 0, .string { data := #[] }, .int .i64 0] 54)) := by
    have := DC.out (w.alloc (.cells #[.int .i64 0, .string { data := #[] }, .int .i64 0] 54)) s[i]
    rw [hd] at this
    exact this
  have HL := Lib.hid hl
  have HLN := Lib.hid hlen
  have HRr := Lib.hid hr
  have HF := Lib.hid hF
  have HRL := Lib.hid hrl
  have HRC := Lib.hid hrc
  clear hl hlen hr hrc hF hrl hd
  go_enter Tryd.func57, Tryd.ntmps57
  go_wp2_with fail
  refine D0.out.mono ?_
  rintro e w2 ⟨rfl, hw⟩
  generalize hwA : w.alloc _ = wA at hw ⊢
  obtain rfl : wA = w2 := hw.symm
  have kA : Keeps (fun _ => False) w wA := by rw [← hwA]; exact (Keeps.refl _ _).alloc _
  have c0 : wA.cell? ⟨w.heap.size, 0, none⟩ = some (.int .i64 0) := by rw [← hwA]; simp
  have c1 : wA.cell? ⟨w.heap.size, 1, none⟩ = some (.string { data := #[] }) := by rw [← hwA]; simp
  have c2 : wA.cell? ⟨w.heap.size, 2, none⟩ = some (.int .i64 0) := by rw [← hwA]; simp
  have f0 : wA.frozen? ⟨w.heap.size, 0, none⟩ = false := by rw [← hwA]; simp
  have f1 : wA.frozen? ⟨w.heap.size, 1, none⟩ = false := by rw [← hwA]; simp
  have f2 : wA.frozen? ⟨w.heap.size, 2, none⟩ = false := by rw [← hwA]; simp
  have KA := Lib.hid kA
  obtain ⟨pn, hpn⟩ : ∃ pn, pn = w.heap.size := ⟨_, rfl⟩
  rw [← hpn] at c0 c1 c2 f0 f1 f2 ⊢
  have HPN := Lib.hid hpn
  have hbl := cell_ltk c0
  clear hw hwA kA D0 hpn
  have L0 : Hid (Calls Tryd.prog 88 #[.int .u8 (s[i].toNat : Int)] wA fun e w' => e = .returned (.bool true) ∧ w' = wA) := by
    have := LC.out wA s[i]
    rw [hlt] at this
    exact this
  clear hlt
  go_wp2_with fail
  refine L0.out.mono ?_
  rintro e w3 ⟨rfl, hw⟩
  obtain rfl : wA = w3 := hw.symm
  clear hw L0
  go_wp2_with fail
  go_loopw [8] (fun s8 wr => ∃ (t P : Nat), P = i + t ∧ P ≤ s.size ∧ s8 = .int .i64 P ∧ t ≤ runL nmc r ∧ wr = wA) (fun s8 _ => s.size + 1 - (intOf s8).toNat)
  case atStart => exact ⟨0, i, rfl, by omega, rfl, Nat.zero_le _, rfl⟩
  case round =>
    obtain ⟨t, P, hP, hPs, rfl, ht, hw⟩ := hrel
    obtain rfl : wA = wr := hw.symm
    clear hw
    obtain ⟨st1, st2⟩ := run_step ht
    by_cases hPN : P < s.size
    · have hPI : (P : Int) < (s.size : Int) := by omega
      have hPd : decide ((P : Int) < (s.size : Int)) = true := decide_eq_true hPI
      have hP0 : (0 : Int) ≤ (P : Int) := by omega
      have hc : r[t]? = some s[P] := by
        have h1 := at_drop s i t (by omega)
        rw [HRr.out, HL.out, h1]
        congr 1
        congr 1
        exact hP.symm
      have h2 := st1 _ hc
      have hLC := LC.out wA s[P]
      have hDC := DC.out wA s[P]
      clear hc st1 st2
      cases hb : ltr s[P] with
      | true =>
        rw [hb] at hLC
        have HLC := Lib.hid hLC
        clear hLC hDC
        have hte := h2.1 (by unfold nmc; rw [hb]; rfl)
        have HP := Lib.hid hP
        clear h2 hb hP
        go_wp2_with fail
        refine HLC.out.mono ?_
        rintro e w3 ⟨rfl, hw⟩
        obtain rfl : wA = w3 := hw.symm
        clear hw HLC
        go_wp2
        go_roundw
        case rel => exact ⟨t + 1, P + 1, by have := HP.out; omega, by omega, by go_num, hte, by first | rfl | trivial⟩
        case measure => simp [intOf]; omega
      | false =>
        rw [hb] at hLC
        have HLC := Lib.hid hLC
        clear hLC
        cases hb2 : dig s[P] with
        | true =>
          rw [hb2] at hDC
          have HDC := Lib.hid hDC
          clear hDC
          have hb : nmc s[P] = true := by unfold nmc; rw [hb, hb2]; rfl
          clear hb2
          have hte := h2.1 hb
          have HP := Lib.hid hP
          clear h2 hb hP
          go_wp2_with fail
          refine HLC.out.mono ?_
          rintro e w3 ⟨rfl, hw⟩
          obtain rfl : wA = w3 := hw.symm
          clear hw HLC
          go_wp2_with fail
          refine HDC.out.mono ?_
          rintro e w3 ⟨rfl, hw⟩
          obtain rfl : wA = w3 := hw.symm
          clear hw HDC
          go_wp2
          go_roundw
          case rel => exact ⟨t + 1, P + 1, by have := HP.out; omega, by omega, by go_num, hte, by first | rfl | trivial⟩
          case measure => simp [intOf]; omega
        | false =>
          rw [hb2] at hDC
          have HDC := Lib.hid hDC
          clear hDC
          by_cases h95 : s[P].toNat = 95
          · have q95 : ((s[P].toNat : Int) == 95) = true := by simp; omega
            have hb : nmc s[P] = true := by unfold nmc; rw [hb, hb2, decide_eq_true h95]; rfl
            have H95 := Lib.hid h95
            clear hb2 h95
            have hte := h2.1 hb
            have HP := Lib.hid hP
            clear h2 hb hP
            go_wp2_with fail
            refine HLC.out.mono ?_
            rintro e w3 ⟨rfl, hw⟩
            obtain rfl : wA = w3 := hw.symm
            clear hw HLC
            go_wp2_with fail
            refine HDC.out.mono ?_
            rintro e w3 ⟨rfl, hw⟩
            obtain rfl : wA = w3 := hw.symm
            clear hw HDC
            go_wp2
            go_roundw
            case rel => exact ⟨t + 1, P + 1, by have := HP.out; omega, by omega, by go_num, hte, by first | rfl | trivial⟩
            case measure => simp [intOf]; omega
          · have q95 : ((s[P].toNat : Int) == 95) = false := by simp; omega
            have hb3 : nmc s[P] = false := by unfold nmc; rw [hb, hb2, decide_eq_false h95]; rfl
            have hte := h2.2 hb3
            have HPx := Lib.hid hP
            have HTx := Lib.hid hte
            clear h2 hb hb2 hb3 hP hte h95
            go_wp2_with fail
            refine HLC.out.mono ?_
            rintro e w3 ⟨rfl, hw⟩
            obtain rfl : wA = w3 := hw.symm
            clear hw HLC
            go_wp2_with fail
            refine HDC.out.mono ?_
            rintro e w3 ⟨rfl, hw⟩
            obtain rfl : wA = w3 := hw.symm
            clear hw HDC
            have hP := HPx.out
            have hte := HTx.out
            have hTl : (s.extract i P).data.toList = r.take t := by
              rw [ext_mid2, ← HL.out, ← HRr.out, show P - i = t by omega]
            have hTs : (s.extract i P).size = t := by
              rw [← len_size, hTl, List.length_take, HRL.out]
              omega
            have hNC := rword_any (s.extract i P) wA
            rw [hTl] at hNC
            have hFN : firstL r = if isWord (r.take t) then (4, t, 0) else if 8 < t then (0, 0, 13) else (3, t, 0) := by
              rw [HF.out]
              unfold nameL
              rw [← hte]
            obtain ⟨X, hX⟩ : ∃ X, X = s.extract i P := ⟨_, rfl⟩
            rw [← hX] at hNC hTl hTs
            have hiP : (i : Int) ≤ (P : Int) := by omega
            have hP0 : (0 : Int) ≤ (P : Int) := by omega
            have hPsI : (P : Int) ≤ (s.size : Int) := by omega
            have HX := Lib.hid hX
            have HTL := Lib.hid hTl
            have HP := Lib.hid hP
            have HTS := Lib.hid hTs
            clear hX hte hTl hP hTs
            cases hwd : isWord (r.take t) with
            | true =>
              rw [hwd] at hNC
              rw [if_pos hwd] at hFN
              have NC := Lib.hid hNC
              have HFN := Lib.hid hFN
              clear hwd hNC hFN
              go_wp2_with fail
              rw [← HX.out]
              refine NC.out.mono ?_
              rintro e w3 ⟨rfl, k3⟩
              have g0 := (k3.cell hbl (fun h => h)).trans c0
              have g1 := (k3.cell hbl (fun h => h)).trans c1
              have g2 := (k3.cell hbl (fun h => h)).trans c2
              have e0 := (k3.frozen hbl (fun h => h)).trans f0
              have e1 := (k3.frozen hbl (fun h => h)).trans f1
              have e2 := (k3.frozen hbl (fun h => h)).trans f2
              have K3 := Lib.hid (KA.out.trans k3 (fun _ _ h => h))
              clear c0 c1 c2 f0 f1 f2 k3
              clear NC
              go_wp2
              (try simp only [Exit.inBlock, Exit.then])
              refine bodyPost_ret (v := .tuple #[.agg #[.int .i64 4, .string X, .int .i64 i], .int .i64 P, .int .i64 0]) ?_ rfl ?_
              · rw [results_cell_tmp3 rfl]
                go_simp
              refine ⟨⟨4, X, i, P, 0, rfl, ?_, fun _ => ?_⟩, ?_⟩
              · rw [← HRr.out, HFN.out]
              · rw [← HRr.out, HFN.out]
                exact ⟨rfl, HTL.out, rfl, HP.out⟩
              · exact keeps_one K3.out HPN.out _ _ _
            | false =>
              rw [hwd] at hNC
              rw [if_neg (by rw [hwd]; decide)] at hFN
              by_cases h8 : 8 < t
              · have h8I : (8 : Int) < (X.size : Int) := by have := HTS.out; omega
                have h8d : decide ((8 : Int) < (X.size : Int)) = true := decide_eq_true h8I
                rw [if_pos h8] at hFN
                have NC := Lib.hid hNC
                have HFN := Lib.hid hFN
                clear hwd hNC hFN h8
                go_wp2_with fail
                rw [← HX.out]
                refine NC.out.mono ?_
                rintro e w3 ⟨rfl, k3⟩
                have g0 := (k3.cell hbl (fun h => h)).trans c0
                have g1 := (k3.cell hbl (fun h => h)).trans c1
                have g2 := (k3.cell hbl (fun h => h)).trans c2
                have e0 := (k3.frozen hbl (fun h => h)).trans f0
                have e1 := (k3.frozen hbl (fun h => h)).trans f1
                have e2 := (k3.frozen hbl (fun h => h)).trans f2
                have K3 := Lib.hid (KA.out.trans k3 (fun _ _ h => h))
                clear c0 c1 c2 f0 f1 f2 k3
                clear NC
                go_wp2
                (try simp only [Exit.inBlock, Exit.then])
                refine bodyPost_ret (v := .tuple #[.agg #[.int .i64 0, .string { data := #[] }, .int .i64 0], .int .i64 i, .int .i64 13]) ?_ rfl ?_
                · rw [results_cell_tmp3 rfl]
                  go_simp
                refine ⟨⟨0, { data := #[] }, 0, i, 13, rfl, ?_, fun h => by cases h⟩, ?_⟩
                · rw [← HRr.out, HFN.out]
                · exact keeps_one K3.out HPN.out _ _ _
              · have h8I : ¬ (8 : Int) < (X.size : Int) := by have := HTS.out; omega
                have h8d : decide ((8 : Int) < (X.size : Int)) = false := decide_eq_false h8I
                rw [if_neg h8] at hFN
                have NC := Lib.hid hNC
                have HFN := Lib.hid hFN
                clear hwd hNC hFN h8
                go_wp2_with fail
                rw [← HX.out]
                refine NC.out.mono ?_
                rintro e w3 ⟨rfl, k3⟩
                have g0 := (k3.cell hbl (fun h => h)).trans c0
                have g1 := (k3.cell hbl (fun h => h)).trans c1
                have g2 := (k3.cell hbl (fun h => h)).trans c2
                have e0 := (k3.frozen hbl (fun h => h)).trans f0
                have e1 := (k3.frozen hbl (fun h => h)).trans f1
                have e2 := (k3.frozen hbl (fun h => h)).trans f2
                have K3 := Lib.hid (KA.out.trans k3 (fun _ _ h => h))
                clear c0 c1 c2 f0 f1 f2 k3
                clear NC
                go_wp2
                (try simp only [Exit.inBlock, Exit.then])
                refine bodyPost_ret (v := .tuple #[.agg #[.int .i64 3, .string X, .int .i64 i], .int .i64 P, .int .i64 0]) ?_ rfl ?_
                · rw [results_cell_tmp3 rfl]
                  go_simp
                refine ⟨⟨3, X, i, P, 0, rfl, ?_, fun _ => ?_⟩, ?_⟩
                · rw [← HRr.out, HFN.out]
                · rw [← HRr.out, HFN.out]
                  exact ⟨rfl, HTL.out, rfl, HP.out⟩
                · exact keeps_one K3.out HPN.out _ _ _
    · have hPd : decide ((P : Int) < (s.size : Int)) = false := decide_eq_false (by omega)
      have hte := st2 (List.getElem?_eq_none_iff.2 (by rw [HRL.out]; omega))
      clear st1 st2
      have hTl : (s.extract i P).data.toList = r.take t := by
        rw [ext_mid2, ← HL.out, ← HRr.out, show P - i = t by omega]
      have hTs : (s.extract i P).size = t := by
        rw [← len_size, hTl, List.length_take, HRL.out]
        omega
      have hNC := rword_any (s.extract i P) wA
      rw [hTl] at hNC
      have hFN : firstL r = if isWord (r.take t) then (4, t, 0) else if 8 < t then (0, 0, 13) else (3, t, 0) := by
        rw [HF.out]
        unfold nameL
        rw [← hte]
      obtain ⟨X, hX⟩ : ∃ X, X = s.extract i P := ⟨_, rfl⟩
      rw [← hX] at hNC hTl hTs
      have hiP : (i : Int) ≤ (P : Int) := by omega
      have hP0 : (0 : Int) ≤ (P : Int) := by omega
      have hPsI : (P : Int) ≤ (s.size : Int) := by omega
      have HX := Lib.hid hX
      have HTL := Lib.hid hTl
      have HP := Lib.hid hP
      have HTS := Lib.hid hTs
      clear hX hte hTl hP hTs
      cases hwd : isWord (r.take t) with
      | true =>
        rw [hwd] at hNC
        rw [if_pos hwd] at hFN
        have NC := Lib.hid hNC
        have HFN := Lib.hid hFN
        clear hwd hNC hFN
        go_wp2_with fail
        rw [← HX.out]
        refine NC.out.mono ?_
        rintro e w3 ⟨rfl, k3⟩
        have g0 := (k3.cell hbl (fun h => h)).trans c0
        have g1 := (k3.cell hbl (fun h => h)).trans c1
        have g2 := (k3.cell hbl (fun h => h)).trans c2
        have e0 := (k3.frozen hbl (fun h => h)).trans f0
        have e1 := (k3.frozen hbl (fun h => h)).trans f1
        have e2 := (k3.frozen hbl (fun h => h)).trans f2
        have K3 := Lib.hid (KA.out.trans k3 (fun _ _ h => h))
        clear c0 c1 c2 f0 f1 f2 k3
        clear NC
        go_wp2
        (try simp only [Exit.inBlock, Exit.then])
        refine bodyPost_ret (v := .tuple #[.agg #[.int .i64 4, .string X, .int .i64 i], .int .i64 P, .int .i64 0]) ?_ rfl ?_
        · rw [results_cell_tmp3 rfl]
          go_simp
        refine ⟨⟨4, X, i, P, 0, rfl, ?_, fun _ => ?_⟩, ?_⟩
        · rw [← HRr.out, HFN.out]
        · rw [← HRr.out, HFN.out]
          exact ⟨rfl, HTL.out, rfl, HP.out⟩
        · exact keeps_one K3.out HPN.out _ _ _
      | false =>
        rw [hwd] at hNC
        rw [if_neg (by rw [hwd]; decide)] at hFN
        by_cases h8 : 8 < t
        · have h8I : (8 : Int) < (X.size : Int) := by have := HTS.out; omega
          have h8d : decide ((8 : Int) < (X.size : Int)) = true := decide_eq_true h8I
          rw [if_pos h8] at hFN
          have NC := Lib.hid hNC
          have HFN := Lib.hid hFN
          clear hwd hNC hFN h8
          go_wp2_with fail
          rw [← HX.out]
          refine NC.out.mono ?_
          rintro e w3 ⟨rfl, k3⟩
          have g0 := (k3.cell hbl (fun h => h)).trans c0
          have g1 := (k3.cell hbl (fun h => h)).trans c1
          have g2 := (k3.cell hbl (fun h => h)).trans c2
          have e0 := (k3.frozen hbl (fun h => h)).trans f0
          have e1 := (k3.frozen hbl (fun h => h)).trans f1
          have e2 := (k3.frozen hbl (fun h => h)).trans f2
          have K3 := Lib.hid (KA.out.trans k3 (fun _ _ h => h))
          clear c0 c1 c2 f0 f1 f2 k3
          clear NC
          go_wp2
          (try simp only [Exit.inBlock, Exit.then])
          refine bodyPost_ret (v := .tuple #[.agg #[.int .i64 0, .string { data := #[] }, .int .i64 0], .int .i64 i, .int .i64 13]) ?_ rfl ?_
          · rw [results_cell_tmp3 rfl]
            go_simp
          refine ⟨⟨0, { data := #[] }, 0, i, 13, rfl, ?_, fun h => by cases h⟩, ?_⟩
          · rw [← HRr.out, HFN.out]
          · exact keeps_one K3.out HPN.out _ _ _
        · have h8I : ¬ (8 : Int) < (X.size : Int) := by have := HTS.out; omega
          have h8d : decide ((8 : Int) < (X.size : Int)) = false := decide_eq_false h8I
          rw [if_neg h8] at hFN
          have NC := Lib.hid hNC
          have HFN := Lib.hid hFN
          clear hwd hNC hFN h8
          go_wp2_with fail
          rw [← HX.out]
          refine NC.out.mono ?_
          rintro e w3 ⟨rfl, k3⟩
          have g0 := (k3.cell hbl (fun h => h)).trans c0
          have g1 := (k3.cell hbl (fun h => h)).trans c1
          have g2 := (k3.cell hbl (fun h => h)).trans c2
          have e0 := (k3.frozen hbl (fun h => h)).trans f0
          have e1 := (k3.frozen hbl (fun h => h)).trans f1
          have e2 := (k3.frozen hbl (fun h => h)).trans f2
          have K3 := Lib.hid (KA.out.trans k3 (fun _ _ h => h))
          clear c0 c1 c2 f0 f1 f2 k3
          clear NC
          go_wp2
          (try simp only [Exit.inBlock, Exit.then])
          refine bodyPost_ret (v := .tuple #[.agg #[.int .i64 3, .string X, .int .i64 i], .int .i64 P, .int .i64 0]) ?_ rfl ?_
          · rw [results_cell_tmp3 rfl]
            go_simp
          refine ⟨⟨3, X, i, P, 0, rfl, ?_, fun _ => ?_⟩, ?_⟩
          · rw [← HRr.out, HFN.out]
          · rw [← HRr.out, HFN.out]
            exact ⟨rfl, HTL.out, rfl, HP.out⟩
          · exact keeps_one K3.out HPN.out _ _ _
end Go.Proofs.YtgelggdgbmldiaaDoor

namespace Go.Proofs.YtgelggdgbmldiaaDoor
open Go.RowKit Go.Shelf
set_option linter.unusedVariables false
set_option linter.unusedSimpArgs false
set_option maxRecDepth 100000 in
set_option maxHeartbeats 8000000 in
theorem one_text (s : ByteArray) (hs : s.size ≤ 1000) (i : Nat) (hi : i < s.size) (hd : dig s[i] = false) (hlt : ltr s[i] = false) (h34 : Hid (s[i] = 34)) (w : World) : Calls Tryd.prog 57 #[.string s, .int .i64 i] w (OneR s.data.toList i w) := by
  obtain ⟨l, hl⟩ : ∃ l : List UInt8, l = s.data.toList := ⟨_, rfl⟩
  have hlen : l.length = s.size := by rw [hl, len_size]
  rw [← hl]
  obtain ⟨r, hr⟩ : ∃ r, r = l.drop i := ⟨_, rfl⟩
  have hrc : r = s[i] :: l.drop (i + 1) := by rw [hr]; exact drop_at hl hi
  have hF : firstL r = textL (l.drop (i + 1)) := by rw [hrc, firstL_cons, if_neg (by rw [hd]; decide), if_neg (by rw [hlt]; decide), if_pos h34.out]
  have hrl : r.length = s.size - i := by rw [hr, List.length_drop, hlen]
  have hiI : (i : Int) < (s.size : Int) := by omega
  have hi0 : (0 : Int) ≤ (i : Int) := by omega
  have DC : Hid (∀ (w : World) (c : UInt8), Calls Tryd.prog 86 #[.int .u8 (c.toNat : Int)] w fun e w' => e = .returned (.bool (dig c)) ∧ w' = w) := Lib.hid rdig
  have LC : Hid (∀ (w : World) (c : UInt8), Calls Tryd.prog 88 #[.int .u8 (c.toNat : Int)] w fun e w' => e = .returned (.bool (ltr c)) ∧ w' = w) := Lib.hid rltr
  have D0 : Hid (Calls Tryd.prog 86 #[.int .u8 (s[i].toNat : Int)] (w.alloc (.cells #[.int .i64 0, .string { data := #[] }, .int .i64 0] 54)) fun e w' => e = .returned (.bool false) ∧ w' = w.alloc (.cells #[.int .i64 0, .string { data := #[] }, .int .i64 0] 54)) := by
    have := DC.out (w.alloc (.cells #[.int .i64 0, .string { data := #[] }, .int .i64 0] 54)) s[i]
    rw [hd] at this
    exact this
  have HL := Lib.hid hl
  have HLN := Lib.hid hlen
  have HRr := Lib.hid hr
  have HF := Lib.hid hF
  have HRL := Lib.hid hrl
  have HRC := Lib.hid hrc
  clear hl hlen hr hrc hF hrl hd
  go_enter Tryd.func57, Tryd.ntmps57
  go_wp2_with fail
  refine D0.out.mono ?_
  rintro e w2 ⟨rfl, hw⟩
  generalize hwA : w.alloc _ = wA at hw ⊢
  obtain rfl : wA = w2 := hw.symm
  have kA : Keeps (fun _ => False) w wA := by rw [← hwA]; exact (Keeps.refl _ _).alloc _
  have c0 : wA.cell? ⟨w.heap.size, 0, none⟩ = some (.int .i64 0) := by rw [← hwA]; simp
  have c1 : wA.cell? ⟨w.heap.size, 1, none⟩ = some (.string { data := #[] }) := by rw [← hwA]; simp
  have c2 : wA.cell? ⟨w.heap.size, 2, none⟩ = some (.int .i64 0) := by rw [← hwA]; simp
  have f0 : wA.frozen? ⟨w.heap.size, 0, none⟩ = false := by rw [← hwA]; simp
  have f1 : wA.frozen? ⟨w.heap.size, 1, none⟩ = false := by rw [← hwA]; simp
  have f2 : wA.frozen? ⟨w.heap.size, 2, none⟩ = false := by rw [← hwA]; simp
  have KA := Lib.hid kA
  obtain ⟨pn, hpn⟩ : ∃ pn, pn = w.heap.size := ⟨_, rfl⟩
  rw [← hpn] at c0 c1 c2 f0 f1 f2 ⊢
  have HPN := Lib.hid hpn
  have hbl := cell_ltk c0
  clear hw hwA kA D0 hpn
  have L0 : Hid (Calls Tryd.prog 88 #[.int .u8 (s[i].toNat : Int)] wA fun e w' => e = .returned (.bool false) ∧ w' = wA) := by
    have := LC.out wA s[i]
    rw [hlt] at this
    exact this
  have TC := rtext_any s hs i hi wA
  rw [← HL.out] at TC
  have HTC := Lib.hid TC
  clear hlt TC
  go_wp2_with fail
  refine L0.out.mono ?_
  rintro e w3 ⟨rfl, hw⟩
  obtain rfl : wA = w3 := hw.symm
  clear hw L0
  have q34 : ((s[i].toNat : Int) == 34) = true := by rw [h34.out]; rfl
  go_wp2_with fail
  refine HTC.out.mono ?_
  rintro e w3 ⟨⟨T, en, er, rfl, hT⟩, hw⟩
  obtain rfl : wA = w3 := hw.symm
  have HT := Lib.hid hT
  clear hw HTC hT
  go_wp2
  (try simp only [Exit.inBlock, Exit.then])
  refine bodyPost_ret (v := .tuple #[.agg #[.int .i64 2, .string T, .int .i64 i], .int .i64 en, .int .i64 er]) ?_ rfl ?_
  · rw [results_cell_tmp3 rfl]
    go_simp
  refine ⟨⟨2, T, i, en, er, rfl, ?_, fun he => ?_⟩, ?_⟩
  · rw [← HRr.out, HF.out]
    exact HT.out.1
  · obtain ⟨h1, h2, h3⟩ := HT.out.2 he
    rw [← HRr.out, HF.out, h3]
    refine ⟨rfl, ?_, rfl, h2⟩
    rw [h1, HRC.out]
    obtain ⟨z, hz⟩ : ∃ z, z = l.drop (i + 1) := ⟨_, rfl⟩
    rw [← hz] at h3 ⊢
    have hq : z[runL txc z]? = some 34 := by
      unfold textL at h3
      split at h3
      · rename_i hq
        exact hq
      · cases h3
    have hlt := (List.getElem?_eq_some_iff.1 hq).1
    unfold saidL
    rw [if_pos rfl, List.take_succ_cons]
    rw [List.length_cons, List.length_take, Nat.min_eq_left (by omega), show runL txc z + 1 + 1 - 1 = runL txc z + 1 by omega, List.take_succ_cons, List.drop_succ_cons, List.drop_zero, List.take_take, Nat.min_eq_left (by omega)]
  · exact keeps_one KA.out HPN.out _ _ _
end Go.Proofs.YtgelggdgbmldiaaDoor

namespace Go.Proofs.YtgelggdgbmldiaaDoor
open Go.RowKit Go.Shelf
set_option linter.unusedVariables false
set_option linter.unusedSimpArgs false
set_option maxRecDepth 100000 in
set_option maxHeartbeats 8000000 in
theorem one_sign (s : ByteArray) (hs : s.size ≤ 1000) (i : Nat) (hi : i < s.size) (hd : dig s[i] = false) (hlt : ltr s[i] = false) (h34 : ¬ s[i] = 34) (w : World) : Calls Tryd.prog 57 #[.string s, .int .i64 i] w (OneR s.data.toList i w) := by
  obtain ⟨l, hl⟩ : ∃ l : List UInt8, l = s.data.toList := ⟨_, rfl⟩
  have hlen : l.length = s.size := by rw [hl, len_size]
  rw [← hl]
  obtain ⟨r, hr⟩ : ∃ r, r = l.drop i := ⟨_, rfl⟩
  have hrc : r = s[i] :: l.drop (i + 1) := by rw [hr]; exact drop_at hl hi
  have hF : firstL r = signL r := by rw [hrc, firstL_cons, if_neg (by rw [hd]; decide), if_neg (by rw [hlt]; decide), if_neg h34]
  have hrl : r.length = s.size - i := by rw [hr, List.length_drop, hlen]
  have hiI : (i : Int) < (s.size : Int) := by omega
  have hi0 : (0 : Int) ≤ (i : Int) := by omega
  have DC : Hid (∀ (w : World) (c : UInt8), Calls Tryd.prog 86 #[.int .u8 (c.toNat : Int)] w fun e w' => e = .returned (.bool (dig c)) ∧ w' = w) := Lib.hid rdig
  have LC : Hid (∀ (w : World) (c : UInt8), Calls Tryd.prog 88 #[.int .u8 (c.toNat : Int)] w fun e w' => e = .returned (.bool (ltr c)) ∧ w' = w) := Lib.hid rltr
  have D0 : Hid (Calls Tryd.prog 86 #[.int .u8 (s[i].toNat : Int)] (w.alloc (.cells #[.int .i64 0, .string { data := #[] }, .int .i64 0] 54)) fun e w' => e = .returned (.bool false) ∧ w' = w.alloc (.cells #[.int .i64 0, .string { data := #[] }, .int .i64 0] 54)) := by
    have := DC.out (w.alloc (.cells #[.int .i64 0, .string { data := #[] }, .int .i64 0] 54)) s[i]
    rw [hd] at this
    exact this
  have HL := Lib.hid hl
  have HLN := Lib.hid hlen
  have HRr := Lib.hid hr
  have HF := Lib.hid hF
  have HRL := Lib.hid hrl
  have HRC := Lib.hid hrc
  clear hl hlen hr hrc hF hrl hd
  go_enter Tryd.func57, Tryd.ntmps57
  go_wp2_with fail
  refine D0.out.mono ?_
  rintro e w2 ⟨rfl, hw⟩
  generalize hwA : w.alloc _ = wA at hw ⊢
  obtain rfl : wA = w2 := hw.symm
  have kA : Keeps (fun _ => False) w wA := by rw [← hwA]; exact (Keeps.refl _ _).alloc _
  have c0 : wA.cell? ⟨w.heap.size, 0, none⟩ = some (.int .i64 0) := by rw [← hwA]; simp
  have c1 : wA.cell? ⟨w.heap.size, 1, none⟩ = some (.string { data := #[] }) := by rw [← hwA]; simp
  have c2 : wA.cell? ⟨w.heap.size, 2, none⟩ = some (.int .i64 0) := by rw [← hwA]; simp
  have f0 : wA.frozen? ⟨w.heap.size, 0, none⟩ = false := by rw [← hwA]; simp
  have f1 : wA.frozen? ⟨w.heap.size, 1, none⟩ = false := by rw [← hwA]; simp
  have f2 : wA.frozen? ⟨w.heap.size, 2, none⟩ = false := by rw [← hwA]; simp
  have KA := Lib.hid kA
  obtain ⟨pn, hpn⟩ : ∃ pn, pn = w.heap.size := ⟨_, rfl⟩
  rw [← hpn] at c0 c1 c2 f0 f1 f2 ⊢
  have HPN := Lib.hid hpn
  have hbl := cell_ltk c0
  clear hw hwA kA D0 hpn
  have L0 : Hid (Calls Tryd.prog 88 #[.int .u8 (s[i].toNat : Int)] wA fun e w' => e = .returned (.bool false) ∧ w' = wA) := by
    have := LC.out wA s[i]
    rw [hlt] at this
    exact this
  have q34 : ((s[i].toNat : Int) == 34) = false := by
    rw [beq_eq_false_iff_ne]
    intro e
    exact h34 (UInt8.toNat_inj.1 (by rw [show s[i].toNat = 34 by omega]; rfl))
  have hYs : (s.extract i s.size).size = s.size - i := ext_size2 s i
  have hYl : (s.extract i s.size).data.toList = r := by rw [ext_drop, ← HL.out, ← HRr.out]
  have TC := rsign_any (s.extract i s.size) (by omega) (by omega) wA
  rw [hYl] at TC
  have HTC := Lib.hid TC
  have hisI : (i : Int) ≤ (s.size : Int) := by omega
  clear hlt h34 TC hYl hYs
  go_wp2_with fail
  refine L0.out.mono ?_
  rintro e w3 ⟨rfl, hw⟩
  obtain rfl : wA = w3 := hw.symm
  clear hw L0
  go_wp2_with fail
  refine HTC.out.mono ?_
  rintro e w3 ⟨⟨T, rfl, hT⟩, k3⟩
  have g0 := (k3.cell hbl (fun h => h)).trans c0
  have g1 := (k3.cell hbl (fun h => h)).trans c1
  have g2 := (k3.cell hbl (fun h => h)).trans c2
  have e0 := (k3.frozen hbl (fun h => h)).trans f0
  have e1 := (k3.frozen hbl (fun h => h)).trans f1
  have e2 := (k3.frozen hbl (fun h => h)).trans f2
  have K3 := Lib.hid (KA.out.trans k3 (fun _ _ h => h))
  clear c0 c1 c2 f0 f1 f2 k3
  have hem := empty_iff T
  have hsz : T.size = (signS r).length := by rw [← hT, len_size]
  have hsr : signL r = if isTwo r then (5, 2, 0) else if onesL.contains (r.headD 0) then (5, 1, 0) else (0, 0, 10) := rfl
  have hr1 : 1 ≤ r.length := by rw [HRL.out]; omega
  have hcase : (∃ n, signL r = (5, n, 0) ∧ signS r = r.take n ∧ T.size = n ∧ 1 ≤ n ∧ n ≤ 2) ∨ (signL r = (0, 0, 10) ∧ T.size = 0) := by
    by_cases h1 : isTwo r = true
    · refine .inl ⟨2, by rw [hsr, if_pos h1], by unfold signS; rw [if_pos h1], ?_, by decide, by decide⟩
      rw [hsz]
      unfold signS
      rw [if_pos h1, List.length_take]
      obtain ⟨k, _, h2, _⟩ := (two_get r).1 h1
      omega
    · by_cases h2 : onesL.contains (r.headD 0) = true
      · refine .inl ⟨1, by rw [hsr, if_neg h1, if_pos h2], by unfold signS; rw [if_neg h1, if_pos h2], ?_, by decide, by decide⟩
        rw [hsz]
        unfold signS
        rw [if_neg h1, if_pos h2, List.length_take]
        omega
      · refine .inr ⟨by rw [hsr, if_neg h1, if_neg h2], ?_⟩
        rw [hsz]
        unfold signS
        rw [if_neg h1, if_neg h2]
        rfl
  have HT := Lib.hid hT
  clear hT hsz hsr HTC hr1
  rcases hcase with ⟨n, h1, h2, h3, h4, h5⟩ | ⟨h1, h3⟩
  · rw [decide_eq_false (by omega)] at hem
    have H1 := Lib.hid h1
    have H2 := Lib.hid h2
    have H3 := Lib.hid h3
    have hT2 : T.size ≤ 2 := by omega
    clear h1 h2 h3
    go_wp2
    (try simp only [Exit.inBlock, Exit.then])
    refine bodyPost_ret (v := .tuple #[.agg #[.int .i64 5, .string T, .int .i64 i], .int .i64 ((i : Int) + (T.size : Int)), .int .i64 0]) ?_ rfl ?_
    · rw [results_cell_tmp3 rfl]
      go_simp
    refine ⟨⟨5, T, i, i + T.size, 0, by first | rfl | (rw [Int.natCast_add]; rfl), ?_, fun _ => ?_⟩, ?_⟩
    · rw [← HRr.out, HF.out, H1.out]
    · rw [← HRr.out, HF.out, H1.out]
      exact ⟨rfl, by rw [HT.out, H2.out]; rfl, rfl, by rw [H3.out]⟩
    · exact keeps_one K3.out HPN.out _ _ _
  · rw [decide_eq_true h3] at hem
    have H1 := Lib.hid h1
    clear h1 h3
    go_wp2
    (try simp only [Exit.inBlock, Exit.then])
    refine bodyPost_ret (v := .tuple #[.agg #[.int .i64 0, .string { data := #[] }, .int .i64 0], .int .i64 i, .int .i64 10]) ?_ rfl ?_
    · rw [results_cell_tmp3 rfl]
      go_simp
    refine ⟨⟨0, { data := #[] }, 0, i, 10, rfl, ?_, fun h => by cases h⟩, ?_⟩
    · rw [← HRr.out, HF.out, H1.out]
    · exact keeps_one K3.out HPN.out _ _ _
end Go.Proofs.YtgelggdgbmldiaaDoor

namespace Go.Proofs.YtgelggdgbmldiaaDoor
open Go.RowKit Go.Shelf
set_option linter.unusedVariables false
set_option linter.unusedSimpArgs false
theorem one_any (s : ByteArray) (hs : s.size ≤ 1000) (i : Nat) (hi : i < s.size) (w : World) : Calls Tryd.prog 57 #[.string s, .int .i64 i] w (OneR s.data.toList i w) := by
  cases h1 : dig s[i] with
  | true => exact one_number s hs i hi h1 w
  | false =>
    cases h2 : ltr s[i] with
    | true => exact one_name s hs i hi h1 h2 w
    | false =>
      by_cases h3 : s[i] = 34
      · exact one_text s hs i hi h1 h2 (Lib.hid h3) w
      · exact one_sign s hs i hi h1 h2 h3 w
/-- The tokens so far. -/
structure OutR (w : World) (B : Nat) (v : Value) (L : List Tok) : Prop where
  own : w.ownsRow 0 54 3 v L.length (flatT L)
  hb : ∀ g, v.ownBlock = some g → B ≤ g
theorem OutR.keep {w w' : World} {B : Nat} {v : Value} {L : List Tok} (h : OutR w B v L) (hk : Keeps (fun _ => False) w w') : OutR w' B v L := ⟨own_of h.own hk, h.hb⟩
theorem OutR.more {w w1 w5 : World} {B : Nat} {v v5 : Value} {L : List Tok} (h : OutR w B v L) (hB : B ≤ w.heap.size) (t : Tok) (hk : Keeps (fun _ => False) w w1) (ho : w5.ownsRow 0 54 3 v5 (L.length + 1) (flatT L ++ t.cells)) (hg : w1.grownBy w5 v.ownBlock)
    (hb : v5.ownBlock = v.ownBlock ∨ v5.ownBlock = some w1.heap.size) : OutR w5 B v5 (L ++ [t]) ∧ Keeps (fun b => B ≤ b) w w5 := by
  have k5 : Keeps (fun b => some b = v.ownBlock) w w5 := (hk.mono (T := fun b => some b = v.ownBlock) (fun _ _ h => h.elim)).grown hg fun k e _ => e.symm
  refine ⟨⟨?_, fun g hg2 => ?_⟩, k5.mono (fun b _ e => h.hb b e.symm)⟩
  · rw [List.length_append, flatT_append]
    simpa [flatT] using ho
  · rcases hb with e | e
    · exact h.hb g (e ▸ hg2)
    · rw [e] at hg2
      have h1 : w1.heap.size = g := Option.some.inj hg2
      have := hk.size
      omega
set_option maxRecDepth 100000 in
set_option maxHeartbeats 8000000 in
theorem rall_any (s : ByteArray) (hs : s.size ≤ 1000) (w : World) : Calls Tryd.prog 28 #[.string s] w (AllE s.data.toList w) := by
  obtain ⟨l, hl⟩ : ∃ l : List UInt8, l = s.data.toList := ⟨_, rfl⟩
  have hlN : l.length = s.size := by rw [hl, len_size]
  rw [← hl]
  have HL := Lib.hid hl
  have HLN := Lib.hid hlN
  by_cases hbig : 600 < s.size
  · have hbigI : (600 : Int) < (s.size : Int) := by omega
    have hd : decide ((600 : Int) < (s.size : Int)) = true := decide_eq_true hbigI
    have hfin : AllE l w (.returned (.tuple #[.slice none 0 0, .int .i64 0, .int .i64 4])) w := ⟨by rw [hlN, if_pos hbig], Keeps.refl _ _⟩
    have HF := Lib.hid hfin
    clear hl hlN hfin
    go_enter Tryd.func28, Tryd.ntmps28
    go_wp2
    go_ret3
    exact HF.out
  have hbigI : ¬ (600 : Int) < (s.size : Int) := by omega
  have hd : decide ((600 : Int) < (s.size : Int)) = false := decide_eq_false hbigI
  obtain ⟨i0, hi, hz0, hz1, hz2⟩ := info_parts info33
  have S0 := rskip_any s hs 0 (Nat.zero_le _)
  rw [← hl] at S0
  have HS0 := Lib.hid S0
  clear hl hlN S0
  go_enter Tryd.func28, Tryd.ntmps28
  go_wp2_with fail
  refine (HS0.out _).mono ?_
  rintro e w1 ⟨⟨j, rfl, _, hjs, hlx, hgo⟩, hw⟩
  rw [List.drop_zero] at hlx
  generalize hwA : w.alloc _ = wA at hw ⊢
  obtain rfl : wA = w1 := hw.symm
  obtain ⟨B, hB⟩ : ∃ B, B = w.heap.size := ⟨_, rfl⟩
  have kA : Keeps (fun b => B ≤ b) w wA := by rw [← hwA]; exact (Keeps.refl _ _).alloc _
  have oA : OutR wA B (.slice (some ⟨w.heap.size, 0, none⟩) 0 0) [] := by
    refine ⟨by rw [← hwA]; exact World.ownsRow_made w #[] 0 (Nat.zero_le _) (by decide) rfl, fun g hg => ?_⟩
    have : w.heap.size = g := by simpa [Value.ownBlock] using hg
    omega
  have HBB := Lib.hid hB
  rw [← hB] at oA ⊢
  have KA := Lib.hid kA
  have OA := Lib.hid oA
  have HLX0 := Lib.hid hlx
  have HGO0 := Lib.hid hgo
  clear hw hwA kA oA hB hlx hgo HS0
  have SKC : Hid (∀ (i : Nat), i ≤ s.size → ∀ w, Calls Tryd.prog 56 #[.string s, .int .i64 i] w fun e w' => (∃ j : Nat, e = .returned (.int .i64 (j : Int)) ∧ i ≤ j ∧ j ≤ s.size ∧ lexL (l.drop j) j = lexL (l.drop i) i ∧ (j < s.size → ∃ c r, l.drop j = c :: r ∧ blk c = false ∧ isRem (c :: r) = false)) ∧ w' = w) := by
    rw [HL.out]
    exact Lib.hid fun i hi w => rskip_any s hs i hi w
  have ONC : Hid (∀ (i : Nat), i < s.size → ∀ w, Calls Tryd.prog 57 #[.string s, .int .i64 i] w (OneR l i w)) := by
    rw [HL.out]
    exact Lib.hid fun i hi w => one_any s hs i hi w
  go_wp2_with fail
  go_loopw [5, 6] (fun s5 s6 wr => ∃ (p : Nat) (done : List Tok), p ≤ s.size ∧ s6 = .int .i64 p ∧ done.length ≤ p ∧ OutR wr B s5 done ∧ lexL l 0 = (done ++ (lexL (l.drop p) p).1, (lexL (l.drop p) p).2) ∧
    (p < s.size → ∃ c r, l.drop p = c :: r ∧ blk c = false ∧ isRem (c :: r) = false) ∧ Keeps (fun b => B ≤ b) w wr) (fun _ s6 _ => s.size + 1 - (intOf s6).toNat)
  case atStart => exact ⟨j, [], hjs, rfl, Nat.zero_le _, OA.out, by rw [HLX0.out, List.nil_append], HGO0.out, KA.out⟩
  case round =>
    obtain ⟨p, done, hp, rfl, hdl, ho, hlex, hgo, kr⟩ := hrel
    obtain ⟨v, rfl⟩ : ∃ v, v = u5 := ⟨_, rfl⟩
    obtain ⟨n, hn⟩ : ∃ n : Nat, n = done.length := ⟨_, rfl⟩
    have HNn := Lib.hid hn
    have HDL : Hid (n ≤ p) := by rw [hn]; exact hdl
    have hn9 : n ≤ 1000 := by omega
    have KR := Lib.hid kr
    have HO := Lib.hid ho
    have HLX := Lib.hid hlex
    have hwB : B ≤ wr.heap.size := by have := kr.size; have := HBB.out; omega
    clear hdl ho hlex kr hn
    by_cases hpN : p < s.size
    · have hpI : (p : Int) < (s.size : Int) := by omega
      have hpd : decide ((p : Int) < (s.size : Int)) = true := decide_eq_true hpI
      obtain ⟨c, r, hdr, hbk, hrm⟩ := hgo hpN
      have OC := Lib.hid (ONC.out p hpN wr)
      have HDR := Lib.hid hdr
      have HBK := Lib.hid hbk
      have HRM := Lib.hid hrm
      have hrlen : (c :: r).length = s.size - p := by rw [← hdr, List.length_drop, HLN.out]
      have HRLn := Lib.hid hrlen
      clear hgo hdr hbk hrm hrlen
      go_wp2_with fail
      refine OC.out.mono ?_
      rintro e w3 ⟨⟨K, X, P, en, er, rfl, her, hok⟩, k3⟩
      rw [HDR.out] at her hok
      clear OC
      by_cases he : er = 0
      · subst he
        obtain ⟨h1, h2, h3, h4⟩ := hok rfl
        subst h3
        have hz := first_size (c :: r) (by simp) her.symm
        have hfin2 : lexL (l.drop P) P = (⟨K, X.data.toList, P⟩ :: (lexL (l.drop en) en).1, (lexL (l.drop en) en).2) := by
          rw [HDR.out, lexL_tok HBK.out HRM.out her.symm, ← h2, ← h1, h4, ← List.drop_drop, HDR.out]
        have hen : en ≤ s.size := by rw [h4]; have := hz.2; rw [HRLn.out] at this; omega
        have hen1 : P < en := by omega
        have HF2 := Lib.hid hfin2
        have HOW := Lib.hid (HO.out.keep k3)
        have KRB := Lib.hid (show B ≤ w3.heap.size by have := k3.size; omega)
        have K3 := Lib.hid k3
        have XL : Hid (X = ofL X.data.toList) := Lib.hid (ofL_of rfl)
        clear her hok h1 h2 h4 hz hfin2 k3
        have hcells : (⟨K, X.data.toList, P⟩ : Tok).cells = [.int .i64 (K : Int), .string X, .int .i64 (P : Int)] := by
          unfold Tok.cells
          rw [← XL.out]
        have HCE := Lib.hid hcells
        clear hcells
        go_upto_if 28 with fail
        generalize hw4 : w3.alloc _ = w4
        have k4 : Keeps (fun _ => False) wr w4 := by rw [← hw4]; exact K3.out.alloc _
        have c0 : w4.cell? ⟨w3.heap.size, 0, none⟩ = some (.int .i64 (K : Int)) := by rw [← hw4]; simp
        have c1 : w4.cell? ⟨w3.heap.size, 1, none⟩ = some (.string X) := by rw [← hw4]; simp
        have c2 : w4.cell? ⟨w3.heap.size, 2, none⟩ = some (.int .i64 (P : Int)) := by rw [← hw4]; simp
        have HOW := Lib.hid (HO.out.keep k4)
        have KRB := Lib.hid (show B ≤ w4.heap.size by have := k4.size; omega)
        have K4 := Lib.hid k4
        clear hw4 k4
        go_wp2_with (at_builtin; refine wpList_append_atk rfl (.tmp 31) (.tmp 33) 46 rfl 0 54 i0 _ 3 32 Tryd.underlying46 hi hz0 hz1 hz2 (by rfl) (by omega) v n (flatT done) (by rfl) (by rw [HNn.out]; exact own_of HOW.out.own ((Keeps.refl _ w4).alloc _)) ⟨w4.heap.size, 0, none⟩ 1 1 (⟨K, X.data.toList, P⟩ : Tok).cells (by rfl) (by rfl) (by rw [HCE.out]; exact (by have h := news3 (w := w4) ⟨K, X.data.toList, P⟩ 54 rfl; rw [HCE.out] at h; exact h)) (Tok.one _) (by omega) (by omega) (Nat.zero_le _) ?_
                     intro v5 w5 h5 g5 b5
                     obtain ⟨A5, c5', rfl⟩ := own_formk h5
                     have hm := HOW.out.more (by have := KRB.out; omega) ⟨K, X.data.toList, P⟩ ((Keeps.refl _ w4).alloc _) (by rw [← HNn.out]; exact h5) g5 b5
                     have HM := Lib.hid hm.1
                     have K5 := Lib.hid hm.2
                     clear hm h5 g5 b5)
        refine (SKC.out en hen w5).mono ?_
        rintro e w6 ⟨⟨j2, rfl, hj1, hj2, hlx2, hgo2⟩, hw⟩
        obtain rfl : w5 = w6 := hw.symm
        have HL2 := Lib.hid hlx2
        have HG2 := Lib.hid hgo2
        clear hw hlx2 hgo2
        go_wp2
        go_roundw
        case rel =>
          refine ⟨j2, done ++ [⟨K, X.data.toList, P⟩], hj2, rfl, ?_, HM.out, ?_, HG2.out, ?_⟩
          · rw [List.length_append, ← HNn.out]
            have := HDL.out
            show n + 1 ≤ j2
            omega
          · rw [HLX.out, HF2.out, HL2.out, List.append_assoc]
            rfl
          · exact (KR.out.trans K4.out (fun _ _ h => h.elim)).trans K5.out (fun _ _ h => h)
        case measure => simp [intOf]; omega
      · have he0 : ((er : Int) == 0) = false := by simp; omega
        have hfin : AllE l w (.returned (.tuple #[.slice none 0 0, .int .i64 (p : Int), .int .i64 (er : Int)])) (w3.alloc (.cells #[.int .i64 (K : Int), .string X, .int .i64 (P : Int)] 54)) := by
          refine ⟨?_, kback (KR.out.trans (k3.alloc _) (fun _ _ h => h.elim)) HBB.out⟩
          have hb : lexL (c :: r) p = ([], some (p, er)) := by rw [her]; exact lexL_bad HBK.out HRM.out (by rw [← her]; exact he)
          have e1 : (lexL l 0).2 = some (p, er) := by rw [HLX.out, HDR.out, hb]
          rw [HLN.out, if_neg hbig, e1]
        have HF := Lib.hid hfin
        clear her hok he hfin
        go_wp2
        go_ret3
        exact HF.out
    · obtain rfl : p = s.size := by omega
      have hpd : decide ((s.size : Int) < (s.size : Int)) = false := decide_eq_false (by omega)
      have HOW := HO
      have KRB := Lib.hid hwB
      have HCE : Hid ((⟨0, [], s.size⟩ : Tok).cells = [.int .i64 0, .string { data := #[] }, .int .i64 (s.size : Int)]) := Lib.hid rfl
      have hdn : l.drop s.size = [] := List.drop_of_length_le (by rw [HLN.out]; exact Nat.le_refl _)
      have hlxn : lexL l 0 = (done ++ [⟨0, [], s.size⟩], none) := by rw [HLX.out, hdn, lexL_nil]
      have HLXN := Lib.hid hlxn
      clear hdn hlxn hgo
      go_wp2_with (at_builtin; refine wpList_append_atk rfl (.tmp 38) (.tmp 42) 46 rfl 0 54 i0 _ 3 32 Tryd.underlying46 hi hz0 hz1 hz2 (by rfl) (by omega) v n (flatT done) (by rfl) (by rw [HNn.out]; exact own_of HOW.out.own ((Keeps.refl _ wr).alloc _)) ⟨wr.heap.size, 0, none⟩ 1 1 (⟨0, [], s.size⟩ : Tok).cells (by rfl) (by rfl) (by rw [HCE.out]; exact (by have h := news3 (w := wr) ⟨0, [], s.size⟩ 54 rfl; rw [HCE.out] at h; exact h)) (Tok.one _) (by omega) (by omega) (Nat.zero_le _) ?_
                   intro v5 w5 h5 g5 b5
                   obtain ⟨A5, c5', rfl⟩ := own_formk h5
                   have hm := HOW.out.more (by have := KRB.out; omega) ⟨0, [], s.size⟩ ((Keeps.refl _ wr).alloc _) (by rw [← HNn.out]; exact h5) g5 b5
                   have HM := Lib.hid hm.1
                   have K5 := Lib.hid hm.2
                   clear hm h5 g5 b5)
      obtain ⟨M, hM⟩ : ∃ M : List Tok, M = done ++ [⟨0, [], s.size⟩] := ⟨_, rfl⟩
      have hMl : M.length = n + 1 := by rw [hM, List.length_append, ← HNn.out]; rfl
      have hfin : AllE l w (.returned (.tuple #[.slice A5 (n + 1) c5', .int .i64 0, .int .i64 0])) w5 := by
        refine ⟨?_, kback (KR.out.trans K5.out (fun _ _ h => h)) HBB.out⟩
        rw [HLN.out, if_neg hbig, show (lexL l 0).2 = none by rw [HLXN.out]]
        show ∃ A c, _ = _ ∧ _
        have ho := HM.out
        rw [← hM] at ho
        rw [show (lexL l 0).1 = M by rw [HLXN.out, hM], ← hMl]
        refine ⟨A5, c5', rfl, ?_, fun g hg => ?_⟩
        · rw [hMl]
          have := ho.own
          rw [hMl] at this
          exact this
        · rw [hMl] at hg
          have h1 := ho.hb g hg
          have h2 := HBB.out
          omega
      have HF := Lib.hid hfin
      clear hfin hM hMl
      go_wp2
      go_ret3
      exact HF.out
end Go.Proofs.YtgelggdgbmldiaaDoor
