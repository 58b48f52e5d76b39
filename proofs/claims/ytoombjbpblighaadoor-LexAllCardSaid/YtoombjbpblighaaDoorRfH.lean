/-
  Layer 1: the contract of the document's token at a place: signs. Written by an AI agent.
-/
import Derived.Test.YtoombjbpblighaaDoorRfE
namespace Go.Proofs.YtoombjbpblighaaDoor
open Go.RowKit Go.Shelf
set_option linter.unusedVariables false
set_option linter.unusedSimpArgs false

set_option maxRecDepth 100000 in
set_option maxHeartbeats 8000000 in
theorem one_sign (s : ByteArray) (hs : s.size ≤ 1000) (i : Nat) (hi : i < s.size) (hd : dig s[i] = false) (hlt : ltr s[i] = false) (h34 : ¬ s[i] = 34) (w : World) : Calls Tryd.prog 46 #[.string s, .int .i64 i] w (OneR s.data.toList i w) := by
  obtain ⟨l, hl⟩ : ∃ l : List UInt8, l = s.data.toList := ⟨_, rfl⟩
  have hlen : l.length = s.size := by rw [hl, len_size]
  rw [← hl]
  obtain ⟨r, hr⟩ : ∃ r, r = l.drop i := ⟨_, rfl⟩
  have hrc : r = s[i] :: l.drop (i + 1) := by rw [hr]; exact drop_at hl hi
  have hF : firstL r = signL r := by rw [hrc, firstL_cons, if_neg (by rw [hd]; decide), if_neg (by rw [hlt]; decide), if_neg h34]
  have hrl : r.length = s.size - i := by rw [hr, List.length_drop, hlen]
  have hiI : (i : Int) < (s.size : Int) := by omega
  have hi0 : (0 : Int) ≤ (i : Int) := by omega
  have DC : Hid (∀ (w : World) (c : UInt8), Calls Tryd.prog 72 #[.int .u8 (c.toNat : Int)] w fun e w' => e = .returned (.bool (dig c)) ∧ w' = w) := Lib.hid rdig
  have LC : Hid (∀ (w : World) (c : UInt8), Calls Tryd.prog 74 #[.int .u8 (c.toNat : Int)] w fun e w' => e = .returned (.bool (ltr c)) ∧ w' = w) := Lib.hid rltr
  have D0 : Hid (Calls Tryd.prog 72 #[.int .u8 (s[i].toNat : Int)] (w.alloc (.cells #[.int .i64 0, .string { data := #[] }, .int .i64 0] 33)) fun e w' => e = .returned (.bool false) ∧ w' = w.alloc (.cells #[.int .i64 0, .string { data := #[] }, .int .i64 0] 33)) := by
    have := DC.out (w.alloc (.cells #[.int .i64 0, .string { data := #[] }, .int .i64 0] 33)) s[i]
    rw [hd] at this
    exact this
  have HL := Lib.hid hl
  have HLN := Lib.hid hlen
  have HRr := Lib.hid hr
  have HF := Lib.hid hF
  have HRL := Lib.hid hrl
  have HRC := Lib.hid hrc
  clear hl hlen hr hrc hF hrl hd
  go_enter Tryd.func46, Tryd.ntmps46
  go_wp2_with fail
  refine D0.out.mono ?_
  rintro e w2 ⟨rfl, hw⟩
  generalize hwA : w.alloc _ = wA at hw ⊢
  obtain rfl : wA = w2 := hw.symm
  have kA : Keeps (fun _ => False) w wA := by rw [← hwA]; exact (Keeps.refl _ _).alloc _
  have c0 : wA.cell? ⟨w.heap.size, 0, none⟩ = some (.int .i64 0) := by rw [← hwA]; simp
  have c1 : wA.cell? ⟨w.heap.size, 1, none⟩ = some (.string { data := #[] }) := by rw [← hwA]; simp
  have c2 : wA.cell? ⟨w.heap.size, 2, none⟩ = some (.int .i64 0) := by rw [← hwA]; simp
  have f0 : wA.frozen? ⟨w.heap.size, 0, none⟩ = false := by rw [← hwA]; simp
  have f1 : wA.frozen? ⟨w.heap.size, 1, none⟩ = false := by rw [← hwA]; simp
  have f2 : wA.frozen? ⟨w.heap.size, 2, none⟩ = false := by rw [← hwA]; simp
  have KA := Lib.hid kA
  obtain ⟨pn, hpn⟩ : ∃ pn, pn = w.heap.size := ⟨_, rfl⟩
  rw [← hpn] at c0 c1 c2 f0 f1 f2 ⊢
  have HPN := Lib.hid hpn
  have hbl := cell_ltk c0
  clear hw hwA kA D0 hpn
  have L0 : Hid (Calls Tryd.prog 74 #[.int .u8 (s[i].toNat : Int)] wA fun e w' => e = .returned (.bool false) ∧ w' = wA) := by
    have := LC.out wA s[i]
    rw [hlt] at this
    exact this
  have q34 : ((s[i].toNat : Int) == 34) = false := by
    rw [beq_eq_false_iff_ne]
    intro e
    exact h34 (UInt8.toNat_inj.1 (by rw [show s[i].toNat = 34 by omega]; rfl))
  have hYs : (s.extract i s.size).size = s.size - i := ext_size2 s i
  have hYl : (s.extract i s.size).data.toList = r := by rw [ext_drop, ← HL.out, ← HRr.out]
  have TC := rsign_any (s.extract i s.size) (by omega) (by omega) wA
  rw [hYl] at TC
  have HTC := Lib.hid TC
  have hisI : (i : Int) ≤ (s.size : Int) := by omega
  clear hlt h34 TC hYl hYs
  go_wp2_with fail
  refine L0.out.mono ?_
  rintro e w3 ⟨rfl, hw⟩
  obtain rfl : wA = w3 := hw.symm
  clear hw L0
  go_wp2_with fail
  refine HTC.out.mono ?_
  rintro e w3 ⟨⟨T, rfl, hT⟩, k3⟩
  have g0 := (k3.cell hbl (fun h => h)).trans c0
  have g1 := (k3.cell hbl (fun h => h)).trans c1
  have g2 := (k3.cell hbl (fun h => h)).trans c2
  have e0 := (k3.frozen hbl (fun h => h)).trans f0
  have e1 := (k3.frozen hbl (fun h => h)).trans f1
  have e2 := (k3.frozen hbl (fun h => h)).trans f2
  have K3 := Lib.hid (KA.out.trans k3 (fun _ _ h => h))
  clear c0 c1 c2 f0 f1 f2 k3
  have hem := empty_iff T
  have hsz : T.size = (signS r).length := by rw [← hT, len_size]
  have hsr : signL r = if isTwo r then (5, 2, 0) else if onesL.contains (r.headD 0) then (5, 1, 0) else (0, 0, 10) := rfl
  have hr1 : 1 ≤ r.length := by rw [HRL.out]; omega
  have hcase : (∃ n, signL r = (5, n, 0) ∧ signS r = r.take n ∧ T.size = n ∧ 1 ≤ n ∧ n ≤ 2) ∨ (signL r = (0, 0, 10) ∧ T.size = 0) := by
    by_cases h1 : isTwo r = true
    · refine .inl ⟨2, by rw [hsr, if_pos h1], by unfold signS; rw [if_pos h1], ?_, by decide, by decide⟩
      rw [hsz]
      unfold signS
      rw [if_pos h1, List.length_take]
      obtain ⟨k, _, h2, _⟩ := (two_get r).1 h1
      omega
    · by_cases h2 : onesL.contains (r.headD 0) = true
      · refine .inl ⟨1, by rw [hsr, if_neg h1, if_pos h2], by unfold signS; rw [if_neg h1, if_pos h2], ?_, by decide, by decide⟩
        rw [hsz]
        unfold signS
        rw [if_neg h1, if_pos h2, List.length_take]
        omega
      · refine .inr ⟨by rw [hsr, if_neg h1, if_neg h2], ?_⟩
        rw [hsz]
        unfold signS
        rw [if_neg h1, if_neg h2]
        rfl
  have HT := Lib.hid hT
  clear hT hsz hsr HTC hr1
  rcases hcase with ⟨n, h1, h2, h3, h4, h5⟩ | ⟨h1, h3⟩
  · rw [decide_eq_false (by omega)] at hem
    have H1 := Lib.hid h1
    have H2 := Lib.hid h2
    have H3 := Lib.hid h3
    have hT2 : T.size ≤ 2 := by omega
    clear h1 h2 h3
    go_wp2
    (try simp only [Exit.inBlock, Exit.then])
    refine bodyPost_ret (v := .tuple #[.agg #[.int .i64 5, .string T, .int .i64 i], .int .i64 ((i : Int) + (T.size : Int)), .int .i64 0]) ?_ rfl ?_
    · rw [results_cell_tmp3 rfl]
      go_simp
    refine ⟨⟨5, T, i, i + T.size, 0, by first | rfl | (rw [Int.natCast_add]; rfl), ?_, fun _ => ?_⟩, ?_⟩
    · rw [← HRr.out, HF.out, H1.out]
    · rw [← HRr.out, HF.out, H1.out]
      exact ⟨rfl, by rw [HT.out, H2.out]; rfl, rfl, by rw [H3.out]⟩
    · exact keeps_one K3.out HPN.out _ _ _
  · rw [decide_eq_true h3] at hem
    have H1 := Lib.hid h1
    clear h1 h3
    go_wp2
    (try simp only [Exit.inBlock, Exit.then])
    refine bodyPost_ret (v := .tuple #[.agg #[.int .i64 0, .string { data := #[] }, .int .i64 0], .int .i64 i, .int .i64 10]) ?_ rfl ?_
    · rw [results_cell_tmp3 rfl]
      go_simp
    refine ⟨⟨0, { data := #[] }, 0, i, 10, rfl, ?_, fun h => by cases h⟩, ?_⟩
    · rw [← HRr.out, HF.out, H1.out]
    · exact keeps_one K3.out HPN.out _ _ _

end Go.Proofs.YtoombjbpblighaaDoor
