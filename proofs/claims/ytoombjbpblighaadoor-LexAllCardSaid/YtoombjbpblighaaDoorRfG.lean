/-
  Layer 1: the contract of the document's token at a place: texts. Written by an AI agent.
-/
import Derived.Test.YtoombjbpblighaaDoorRfE
namespace Go.Proofs.YtoombjbpblighaaDoor
open Go.RowKit Go.Shelf
set_option linter.unusedVariables false
set_option linter.unusedSimpArgs false

set_option maxRecDepth 100000 in
set_option maxHeartbeats 8000000 in
theorem one_text (s : ByteArray) (hs : s.size ≤ 1000) (i : Nat) (hi : i < s.size) (hd : dig s[i] = false) (hlt : ltr s[i] = false) (h34 : Hid (s[i] = 34)) (w : World) : Calls Tryd.prog 46 #[.string s, .int .i64 i] w (OneR s.data.toList i w) := by
  obtain ⟨l, hl⟩ : ∃ l : List UInt8, l = s.data.toList := ⟨_, rfl⟩
  have hlen : l.length = s.size := by rw [hl, len_size]
  rw [← hl]
  obtain ⟨r, hr⟩ : ∃ r, r = l.drop i := ⟨_, rfl⟩
  have hrc : r = s[i] :: l.drop (i + 1) := by rw [hr]; exact drop_at hl hi
  have hF : firstL r = textL (l.drop (i + 1)) := by rw [hrc, firstL_cons, if_neg (by rw [hd]; decide), if_neg (by rw [hlt]; decide), if_pos h34.out]
  have hrl : r.length = s.size - i := by rw [hr, List.length_drop, hlen]
  have hiI : (i : Int) < (s.size : Int) := by omega
  have hi0 : (0 : Int) ≤ (i : Int) := by omega
  have DC : Hid (∀ (w : World) (c : UInt8), Calls Tryd.prog 72 #[.int .u8 (c.toNat : Int)] w fun e w' => e = .returned (.bool (dig c)) ∧ w' = w) := Lib.hid rdig
  have LC : Hid (∀ (w : World) (c : UInt8), Calls Tryd.prog 74 #[.int .u8 (c.toNat : Int)] w fun e w' => e = .returned (.bool (ltr c)) ∧ w' = w) := Lib.hid rltr
  have D0 : Hid (Calls Tryd.prog 72 #[.int .u8 (s[i].toNat : Int)] (w.alloc (.cells #[.int .i64 0, .string { data := #[] }, .int .i64 0] 33)) fun e w' => e = .returned (.bool false) ∧ w' = w.alloc (.cells #[.int .i64 0, .string { data := #[] }, .int .i64 0] 33)) := by
    have := DC.out (w.alloc (.cells #[.int .i64 0, .string { data := #[] }, .int .i64 0] 33)) s[i]
    rw [hd] at this
    exact this
  have HL := Lib.hid hl
  have HLN := Lib.hid hlen
  have HRr := Lib.hid hr
  have HF := Lib.hid hF
  have HRL := Lib.hid hrl
  have HRC := Lib.hid hrc
  clear hl hlen hr hrc hF hrl hd
  go_enter Tryd.func46, Tryd.ntmps46
  go_wp2_with fail
  refine D0.out.mono ?_
  rintro e w2 ⟨rfl, hw⟩
  generalize hwA : w.alloc _ = wA at hw ⊢
  obtain rfl : wA = w2 := hw.symm
  have kA : Keeps (fun _ => False) w wA := by rw [← hwA]; exact (Keeps.refl _ _).alloc _
  have c0 : wA.cell? ⟨w.heap.size, 0, none⟩ = some (.int .i64 0) := by rw [← hwA]; simp
  have c1 : wA.cell? ⟨w.heap.size, 1, none⟩ = some (.string { data := #[] }) := by rw [← hwA]; simp
  have c2 : wA.cell? ⟨w.heap.size, 2, none⟩ = some (.int .i64 0) := by rw [← hwA]; simp
  have f0 : wA.frozen? ⟨w.heap.size, 0, none⟩ = false := by rw [← hwA]; simp
  have f1 : wA.frozen? ⟨w.heap.size, 1, none⟩ = false := by rw [← hwA]; simp
  have f2 : wA.frozen? ⟨w.heap.size, 2, none⟩ = false := by rw [← hwA]; simp
  have KA := Lib.hid kA
  obtain ⟨pn, hpn⟩ : ∃ pn, pn = w.heap.size := ⟨_, rfl⟩
  rw [← hpn] at c0 c1 c2 f0 f1 f2 ⊢
  have HPN := Lib.hid hpn
  have hbl := cell_ltk c0
  clear hw hwA kA D0 hpn
  have L0 : Hid (Calls Tryd.prog 74 #[.int .u8 (s[i].toNat : Int)] wA fun e w' => e = .returned (.bool false) ∧ w' = wA) := by
    have := LC.out wA s[i]
    rw [hlt] at this
    exact this
  have TC := rtext_any s hs i hi wA
  rw [← HL.out] at TC
  have HTC := Lib.hid TC
  clear hlt TC
  go_wp2_with fail
  refine L0.out.mono ?_
  rintro e w3 ⟨rfl, hw⟩
  obtain rfl : wA = w3 := hw.symm
  clear hw L0
  have q34 : ((s[i].toNat : Int) == 34) = true := by rw [h34.out]; rfl
  go_wp2_with fail
  refine HTC.out.mono ?_
  rintro e w3 ⟨⟨T, en, er, rfl, hT⟩, hw⟩
  obtain rfl : wA = w3 := hw.symm
  have HT := Lib.hid hT
  clear hw HTC hT
  go_wp2
  (try simp only [Exit.inBlock, Exit.then])
  refine bodyPost_ret (v := .tuple #[.agg #[.int .i64 2, .string T, .int .i64 i], .int .i64 en, .int .i64 er]) ?_ rfl ?_
  · rw [results_cell_tmp3 rfl]
    go_simp
  refine ⟨⟨2, T, i, en, er, rfl, ?_, fun he => ?_⟩, ?_⟩
  · rw [← HRr.out, HF.out]
    exact HT.out.1
  · obtain ⟨h1, h2, h3⟩ := HT.out.2 he
    rw [← HRr.out, HF.out, h3]
    refine ⟨rfl, ?_, rfl, h2⟩
    rw [h1, HRC.out]
    obtain ⟨z, hz⟩ : ∃ z, z = l.drop (i + 1) := ⟨_, rfl⟩
    rw [← hz] at h3 ⊢
    have hq : z[runL txc z]? = some 34 := by
      unfold textL at h3
      split at h3
      · rename_i hq
        exact hq
      · cases h3
    have hlt := (List.getElem?_eq_some_iff.1 hq).1
    unfold saidL
    rw [if_pos rfl, List.take_succ_cons]
    rw [List.length_cons, List.length_take, Nat.min_eq_left (by omega), show runL txc z + 1 + 1 - 1 = runL txc z + 1 by omega, List.take_succ_cons, List.drop_succ_cons, List.drop_zero, List.take_take, Nat.min_eq_left (by omega)]
  · exact keeps_one KA.out HPN.out _ _ _

end Go.Proofs.YtoombjbpblighaaDoor
