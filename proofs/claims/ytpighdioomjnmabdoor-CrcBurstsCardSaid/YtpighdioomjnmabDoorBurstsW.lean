/-
  Layer 20: the walk of CrcBursts. Written by an AI agent.
-/
import Derived.Test.YtpighdioomjnmabDoorCrcG
import Derived.Test.YtpighdioomjnmabDoorCrcO
import Derived.RegionTactic
import Derived.BigRegion
namespace Go.Proofs.YtpighdioomjnmabDoor
open Go.RowKit

theorem lt_take {l : List Nat} (h : ∀ v ∈ l, v < 256) (k : Nat) : ∀ v ∈ l.take k, v < 256 := fun v hv => h v (List.mem_of_mem_take hv)

theorem num_le4 (n : Nat) (h : n < 4294967296) : num (le4 n) = n := by
  simp [num, le4]
  omega

set_option maxRecDepth 100000 in
set_option maxHeartbeats 4000000 in
theorem bursts_walk (A1 : Option Addr) (c1 : Nat) (a : List Nat) (at_ : Int) (wh : Nat) (w : World) (hwh : wh < 4294967296) (K : Nat) (hK : K ≤ 1048575) (eK : bits BinOp.and IntKind.i64 at_ 1048575 = (K : Int))
    (m1 : a.length ≤ 9223372036854775807) (k1 : a.length ≤ c1) (z1 : A1 = none → c1 = 0)
    (l1 : ∀ v ∈ a, v < 256) (r1 : Rd w w.heap.size A1 a) (ht : HasTab w) (h0 : 0 < w.heap.size) :
    Calls Tryd.prog 5 #[.slice A1 a.length c1, .int .i64 at_, .int .u32 (wh : Int)] w fun e w' => e = .returned (.bool true) ∧ Below w.heap.size w w' := by
  obtain ⟨i0, hi, hz0, hz1, hz2⟩ := info_parts info5
  have S1 := Lib.hid (fun w => short_rd c1 A1 a w m1 k1)
  obtain ⟨x, hx⟩ : ∃ x : List Nat, x = a.take 2000 := ⟨_, rfl⟩
  have e1 : x.length ≤ 2000 := by rw [hx]; simp; omega
  have L1 := Lib.hid (show ∀ v ∈ x, v < 256 by rw [hx]; exact lt_take l1 2000)
  have R1 := Lib.hid (show Rd w w.heap.size A1 x by rw [hx]; exact r1.take 2000)
  rw [← hx] at S1
  have Z1 := Lib.hid z1
  have HT := Lib.hid ht
  clear hx l1 r1 ht z1
  obtain ⟨m, hm⟩ : ∃ m : Nat, m = x.length := ⟨_, rfl⟩
  obtain ⟨N, hN0⟩ : ∃ N : Nat, N = 8 * (m + 4) := ⟨_, rfl⟩
  obtain ⟨k, hk0⟩ : ∃ k : Nat, k = K % N := ⟨_, rfl⟩
  have hkN : k < N := by rw [hk0]; exact Nat.mod_lt _ (by omega)
  have hN32 : (32 : Int) ≤ (N : Int) := by omega
  have hNs : N ≤ 20000 := by omega
  have eN : 8 * ((m : Int) + 4) = (N : Int) := by omega
  have ek : (K : Int) % (N : Int) = (k : Int) := by rw [hk0]; omega
  have HN0 := Lib.hid hN0
  clear hN0 hk0
  go_enter Tryd.func5, Tryd.ntmps5
  go_wp2_with fail
  refine (shown_any w HT.out h0).mono ?_
  rintro e w1 ⟨rfl, hb1⟩
  go_wp2_with fail
  refine (S1.out _).mono ?_
  rintro e w1' ⟨rfl, rfl⟩
  go_wp2_with fail
  refine (put_rd w.heap.size c1 A1 x w1 (by omega) Z1.out L1.out (R1.out.below hb1) (HT.out.below h0 hb1) hb1.size (Nat.lt_of_lt_of_le h0 hb1.size)).mono ?_
  rintro e w2 ⟨A6, c6, rfl, k6, m6, z6, R6, hb2'⟩
  have hb2 : Below w.heap.size w w2 := hb1.trans (hb2'.mono hb1.size)
  obtain ⟨b6, o6, rfl, hb6, hc6⟩ := R6 (by simp [le4])
  have hl6 : (x ++ le4 (goN 0 x)).length = m + 4 := by rw [hm]; simp [le4]
  rw [hl6] at k6 ⊢
  rw [← hm] at e1 ⊢
  obtain ⟨p, hp⟩ : ∃ p : List Nat, p = x ++ le4 (goN 0 x) := ⟨_, rfl⟩
  rw [← hp] at R6 hc6 hl6
  have HPD := Lib.hid hp
  have HM := Lib.hid hm.symm
  have pv : ∀ v ∈ p, v < 256 := by
    intro v hv
    rw [hp] at hv
    rcases List.mem_append.1 hv with h | h
    · exact L1.out v h
    · exact le4_lt _ (goN_lt 0 x (by omega) L1.out) v h
  have PV := Lib.hid pv
  have HP := Lib.hid R6
  have HL6 := Lib.hid hl6
  clear hp hm pv R6 hl6 hc6
  have own0 : (w2.alloc (.cells #[] 5)).ownsRow w2.heap.size 5 1 (.slice (some ⟨w2.heap.size, 0, none⟩) 0 0) ([] : List Nat).length (cellsOf []) := World.ownsRow_lit w2 #[] 0 (Nat.le_refl _) (by unfold maxLen; omega) rfl
  have hb2b : Below w2.heap.size w2 (w2.alloc (.cells #[] 5)) := (Below.refl _ _).alloc (Nat.le_refl _) _
  have HSL : Hid (∀ (A : Option Addr) (cc : Nat), Value.slice A (m + 4) cc = .slice A p.length cc) := fun A cc => by rw [HL6.out]
  go_wp2_with (at_builtin; refine wpList_append_rd rfl (.tmp 28) (.tmp 29) rfl w2.heap.size i0 hi hz0 hz1 hz2 (.slice (some ⟨w2.heap.size, 0, none⟩) 0 0) [] rfl own0 w2.heap.size (some ⟨b6, o6, none⟩) c6 p (HSL.out _ _) (by simp) (HP.out.below hb2b) (by rw [HL6.out]; simp; omega) hb2b.size ?_
               intro v3 w3 hown3 hg3
               have hb23 : Below w2.heap.size w2 w3 := hb2b.grown hg3 hb2b.size (fun k hk => (own0.lt k hk).1)
               rw [List.nil_append, HL6.out] at hown3
               obtain ⟨g, cap, hv3, hBg, hgl⟩ := hown3.form (by omega)
               rw [hv3] at hown3 ⊢
               clear hv3)
  have hbw3 : Below w.heap.size w w3 := hb2.trans (hb23.mono hb2.size)
  clear eN ek eK own0 hg3
  go_loopw [12] (fun i wr => ∃ j : Nat, j ≤ 32 ∧ i = .int .i64 j ∧ ∃ xs : List Nat, xs.length = m + 4 ∧ (∀ v ∈ xs, v < 256) ∧ num xs = num p ^^^ (2 ^ k * (wh % 2 ^ min j (N - k))) ∧
      wr.ownsRow w2.heap.size 5 1 (.slice (some ⟨g, 0, none⟩) (m + 4) cap) (m + 4) (cellsOf xs) ∧ Below w2.heap.size w2 wr) (fun i _ => 32 - (intOf i).toNat)
  case atStart => exact ⟨0, by omega, rfl, p, HL6.out, PV.out, by rw [Nat.zero_min, Nat.pow_zero, Nat.mod_one, Nat.mul_zero, Nat.xor_zero], hown3, hb23⟩
  case round =>
    obtain ⟨j, hj, rfl, xs, hxl, hxv, hxn, hown, hbr⟩ := hrel
    by_cases hlt : j < 32
    · have hlt' : (j : Int) < 32 := by omega
      have HO := Lib.hid hown
      have HX := Lib.hid hxn
      have HXV := Lib.hid hxv
      have HXL := Lib.hid hxl
      clear hown hxn hxv hxl
      have eb : bits BinOp.and IntKind.u32 ((wh : Int) / 2 ^ j) 1 = ((wh / 2 ^ j % 2 : Nat) : Int) := by
        have h := u32_and_nat (wh / 2 ^ j) 1 (Nat.lt_of_le_of_lt (Nat.div_le_self _ _) hwh) (by omega)
        rw [Nat.and_one_is_mod] at h
        simpa using h
      have hmj : min (j + 1) (N - k) = min j (N - k) ∨ (min (j + 1) (N - k) = j + 1 ∧ min j (N - k) = j) := by omega
      by_cases hbit : wh / 2 ^ j % 2 = 1
      · by_cases hin : k + j < N
        · rw [hbit] at eb
          have hin' : (k : Int) + (j : Int) < (N : Int) := by omega
          have hq : (k + j) / 8 < m + 4 := by have := HN0.out; omega
          obtain ⟨ov, hov⟩ : ∃ ov : Nat, ov = xs.getD ((k + j) / 8) 0 := ⟨_, rfl⟩
          have hovl : ov < 256 := by
            rw [hov, getD_at xs (by rw [HXL.out]; exact hq)]
            exact HXV.out _ (List.getElem_mem _)
          have hcell : wr.cell? ⟨g, (k + j) / 8, none⟩ = some (.int .u8 (ov : Int)) := by
            rw [HO.out.cellAt ((k + j) / 8) (by omega), hov, getD_at xs (by rw [HXL.out]; exact hq)]
            simp [cellsOf, List.getElem?_eq_getElem (show (k + j) / 8 < xs.length by rw [HXL.out]; exact hq)]
          have hfr : wr.frozen? ⟨g, (k + j) / 8, none⟩ = false := HO.out.frozenAt _
          have hs8 : 2 ^ ((k + j) % 8) < 256 := Nat.pow_lt_pow_right (n := 8) (by omega) (by omega)
          obtain ⟨nv, hnv⟩ : ∃ nv : Nat, nv = ov ^^^ 2 ^ ((k + j) % 8) := ⟨_, rfl⟩
          have ev : bits BinOp.xor IntKind.u8 (ov : Int) (2 ^ ((k + j) % 8) % 256) = (nv : Int) := by
            have h3 : (2 : Int) ^ ((k + j) % 8) = ((2 ^ ((k + j) % 8) : Nat) : Int) := by rw [Int.natCast_pow]; rfl
            have h2 : (2 : Int) ^ ((k + j) % 8) % 256 = ((2 ^ ((k + j) % 8) : Nat) : Int) := by
              rw [h3]
              exact Int.emod_eq_of_lt (Int.natCast_nonneg _) (Int.ofNat_lt.2 hs8)
            rw [h2, hnv]
            exact u8_xor_nat ov _ hovl hs8
          have hnvl : nv < 256 := by rw [hnv]; exact Nat.xor_lt_two_pow (n := 8) hovl hs8
          have HNV := Lib.hid hnv
          have HOV := Lib.hid hov
          have HB := Lib.hid (show min (j + 1) (N - k) = j + 1 ∧ min j (N - k) = j by omega)
          have HBT := Lib.hid hbit
          clear hov hnv hbit hmj hs8
          go_wp2_with fail
          go_region
          go_wp2
          go_roundw
          case rel =>
            refine ⟨j + 1, by omega, by go_num, xs.set ((k + j) / 8) nv, by rw [List.length_set]; exact HXL.out, ?_, ?_, ?_, ?_⟩
            · intro v hv
              rcases List.mem_or_eq_of_mem_set hv with h | h
              · exact HXV.out v h
              · rw [h]; exact hnvl
            · rw [HNV.out, HOV.out, num_set xs HXV.out _ _ (by rw [HXL.out]; exact hq) (by omega), HX.out, HB.out.1, HB.out.2, Nat.xor_assoc]
              congr 1
              rw [show 8 * ((k + j) / 8) + (k + j) % 8 = k + j by omega, Nat.mod_pow_succ, HBT.out, Nat.mul_one, Nat.mul_add, ← Nat.pow_add]
              have hlh := low_high (k + j) 1 (2 ^ k * (wh % 2 ^ j)) (by rw [Nat.pow_add]; exact Nat.mul_lt_mul_of_pos_left (Nat.mod_lt _ (Nat.two_pow_pos j)) (Nat.two_pow_pos k))
              rw [Nat.mul_one] at hlh
              exact hlh.symm
            · have h := (HO.out.stored ((k + j) / 8) (.int .u8 (nv : Int))).1
              have e : (cellsOf xs).set ((k + j) / 8) (.int .u8 (nv : Int)) = cellsOf (xs.set ((k + j) / 8) nv) := by simp [cellsOf, List.map_set]
              rw [e] at h
              exact h
            · exact (hbr.setCell (p := ⟨g, (k + j) / 8, none⟩) hBg _).drew
          case measure => simp [intOf]; omega
        · have hsame : min (j + 1) (N - k) = min j (N - k) := by omega
          have HS := Lib.hid hsame
          rw [hbit] at eb
          have hin' : ¬ (k : Int) + (j : Int) < (N : Int) := by omega
          clear hbit hmj hsame
          go_wp2
          go_roundw
          case rel => exact ⟨j + 1, by omega, by go_num, xs, HXL.out, HXV.out, by rw [HS.out]; exact HX.out, HO.out, hbr⟩
          case measure => simp [intOf]; omega
      · have hb0 : wh / 2 ^ j % 2 = 0 := by omega
        rw [hb0] at eb
        have HS := Lib.hid (show wh % 2 ^ min (j + 1) (N - k) = wh % 2 ^ min j (N - k) by
          rcases hmj with h | ⟨h1, h2⟩
          · rw [h]
          · rw [h1, h2, Nat.mod_pow_succ, hb0, Nat.mul_zero, Nat.add_zero])
        clear hbit hb0 hmj
        go_wp2
        go_roundw
        case rel => exact ⟨j + 1, by omega, by go_num, xs, HXL.out, HXV.out, by rw [HS.out]; exact HX.out, HO.out, hbr⟩
        case measure => simp [intOf]; omega
    · have hlt' : ¬ (j : Int) < 32 := by omega
      have hbwr : Below w.heap.size w wr := hb2.trans (hbr.mono hb2.size)
      have hRx : Rd wr wr.heap.size (some ⟨g, 0, none⟩) xs := fun _ => ⟨g, 0, rfl, (hown.lt g rfl).2, fun i hi => by
        rw [Nat.zero_add, hown.cellAt i (by omega), List.getElem?_eq_getElem (by rw [cellsOf_length]; exact hi), getD_at _ hi]
        simp [cellsOf]⟩
      have hRp := HP.out.below hbr
      have q1 : (convert 22 9 (.slice (some ⟨g, 0, none⟩) (m + 4) cap)).run Tryd.prog wr = .ok (.string (strN xs)) wr := by
        have := conv_rd wr wr.heap.size cap _ xs hRx
        rw [hxl] at this
        exact this
      have q2 : (convert 22 9 (.slice (some ⟨b6, o6, none⟩) (m + 4) c6)).run Tryd.prog wr = .ok (.string (strN p)) wr := by
        have := conv_rd wr w2.heap.size c6 _ p hRp
        rw [HL6.out] at this
        exact this
      have HN := Lib.hid hxn
      have HOWN := Lib.hid hown
      have HXL := Lib.hid hxl
      have HXV := Lib.hid hxv
      have HRX := Lib.hid hRx
      clear hxn hown hxl hxv hRx hRp
      by_cases hp : xs = p
      · have HPE := Lib.hid hp
        rw [hp] at q1
        clear hp
        go_wp2
        go_ret
        exact ⟨rfl, hbwr⟩
      · have hbeq := strN_ne HXV.out PV.out hp
        have hcapm : m + 4 ≤ cap := by
          rcases HOWN.out.2 with ⟨e, _⟩ | ⟨g', cap', cur, e, _, _, h, _⟩
          · cases e
          · cases e; exact h
        have hsplit : xs.take m ++ xs.drop m = xs := List.take_append_drop _ _
        have hne : xs.drop m ≠ le4 (goN 0 (xs.take m)) := by
          intro e
          have hg1 := goN_lt 0 (xs.take m) (by omega) (lt_take HXV.out m)
          have r1 := run_checked (xs.take m) (xs.drop m) (by rw [e]; exact num_le4 _ hg1) (by rw [List.length_drop, HXL.out]; omega) (fun v hv => HXV.out v (List.mem_of_mem_drop hv))
          rw [hsplit] at r1
          have hg2 := goN_lt 0 x (by omega) L1.out
          have r2 := run_checked x (le4 (goN 0 x)) (num_le4 _ hg2) (by simp [le4]) (le4_lt _ hg2)
          rw [← HPD.out] at r2
          exact hp (burst_none p xs PV.out HXV.out (by rw [HL6.out, HXL.out]) k _ (by rw [HL6.out]; have := HN0.out; omega) (Nat.lt_of_le_of_lt (Nat.mod_le _ _) hwh) HN.out (r2.trans r1.symm))
        obtain ⟨bq, oq, e, hbq, hcq⟩ := HRX.out (by rw [HXL.out]; omega)
        cases e
        rw [← hsplit] at hcq
        have T := HT.out.below h0 hbwr
        have TB := Lib.hid (take_bad g 0 cap m (xs.take m) (xs.drop m) wr (by rw [List.length_take, HXL.out]; omega) (by omega) hcapm (lt_take HXV.out m) (fun v hv => HXV.out v (List.mem_of_mem_drop hv)) (by rw [List.length_drop, HXL.out]; omega) hne hbq hcq T (Nat.lt_of_lt_of_le h0 hbwr.size))
        clear hcq T hne hsplit hp
        go_wp2_with fail
        refine TB.out.mono ?_
        rintro e w9 ⟨rfl, hb9⟩
        have HB9 := Lib.hid (hbwr.trans (hb9.mono hbwr.size))
        clear hbeq q1 q2
        go_wp2
        go_ret
        exact ⟨rfl, HB9.out⟩
end Go.Proofs.YtpighdioomjnmabDoor
