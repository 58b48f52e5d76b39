/-
  Layer 20: the walk of CrcEnds. Written by an AI agent.
-/
import Derived.Test.YtpighdioomjnmacDoorCrcG
namespace Go.Proofs.YtpighdioomjnmacDoor
open Go.RowKit

theorem Rd.more {w : World} {B B' : Nat} {A : Option Addr} {l : List Nat} (h : Rd w B A l) (hB : B ≤ B') : Rd w B' A l := fun hn => by
  obtain ⟨b, off, e, hb, hc⟩ := h hn
  exact ⟨b, off, e, by omega, hc⟩
theorem lt_take {l : List Nat} (h : ∀ v ∈ l, v < 256) (k : Nat) : ∀ v ∈ l.take k, v < 256 := fun v hv => h v (List.mem_of_mem_take hv)
theorem new1 (w : World) (c : Nat) : Rd (w.alloc (.cells #[.int .u8 (c : Int)] 5)) (w.heap.size + 1) (some ⟨w.heap.size, 0, none⟩) [c] := fun _ => by
  refine ⟨w.heap.size, 0, rfl, by omega, fun i hi => ?_⟩
  have : i = 0 := by simp at hi; omega
  subst this
  simp

set_option maxRecDepth 100000 in
set_option maxHeartbeats 8000000 in
theorem ends_walk (A1 : Option Addr) (c1 : Nat) (a : List Nat) (c : Nat) (w : World) (hc : c < 256)
    (m1 : a.length ≤ 9223372036854775807) (k1 : a.length ≤ c1) (z1 : A1 = none → c1 = 0)
    (l1 : ∀ v ∈ a, v < 256) (r1 : Rd w w.heap.size A1 a) (ht : HasTab w) (h0 : 0 < w.heap.size) :
    Calls Tryd.prog 3 #[.slice A1 a.length c1, .int .u8 (c : Int)] w fun e w' => e = .returned (.bool true) ∧ Below w.heap.size w w' := by
  obtain ⟨i0, hi, hz0, hz1, hz2⟩ := info_parts info5
  have S1 := Lib.hid (fun w => short_rd c1 A1 a w m1 k1)
  obtain ⟨x, hx⟩ : ∃ x : List Nat, x = a.take 2000 := ⟨_, rfl⟩
  have e1 : x.length ≤ 2000 := by rw [hx]; simp; omega
  have L1 := Lib.hid (show ∀ v ∈ x, v < 256 by rw [hx]; exact lt_take l1 2000)
  have R1 := Lib.hid (show Rd w w.heap.size A1 x by rw [hx]; exact r1.take 2000)
  rw [← hx] at S1
  have Z1 := Lib.hid z1
  have HT := Lib.hid ht
  clear hx l1 r1 ht z1
  obtain ⟨m, hm⟩ : ∃ m : Nat, m = x.length := ⟨_, rfl⟩
  go_enter Tryd.func3, Tryd.ntmps3
  go_wp2_with fail
  refine (shown_any w HT.out h0).mono ?_
  rintro e w1 ⟨rfl, hb1⟩
  go_wp2_with fail
  refine (S1.out _).mono ?_
  rintro e w1' ⟨rfl, rfl⟩
  go_wp2_with fail
  refine (put_rd w.heap.size c1 A1 x w1 (by omega) Z1.out L1.out (R1.out.below hb1) (HT.out.below h0 hb1) hb1.size (Nat.lt_of_lt_of_le h0 hb1.size)).mono ?_
  rintro e w2 ⟨A6, c6, rfl, k6, m6, z6, R6, hb2'⟩
  have hb2 : Below w.heap.size w w2 := hb1.trans (hb2'.mono hb1.size)
  obtain ⟨b6, o6, rfl, hb6, hc6⟩ := R6 (by simp [le4])
  have hl6 : (x ++ le4 (goN 0 x)).length = m + 4 := by rw [hm]; simp [le4]
  rw [hl6] at k6 ⊢
  rw [← hm] at e1 ⊢
  obtain ⟨p, hp⟩ : ∃ p : List Nat, p = x ++ le4 (goN 0 x) := ⟨_, rfl⟩
  rw [← hp] at R6 hc6 hl6
  have HPD := Lib.hid hp
  have HM := Lib.hid hm.symm
  have pv : ∀ v ∈ p, v < 256 := by
    intro v hv
    rw [hp] at hv
    rcases List.mem_append.1 hv with h | h
    · exact L1.out v h
    · exact le4_lt _ (goN_lt 0 x (by omega) L1.out) v h
  have PV := Lib.hid pv
  have HP := Lib.hid R6
  have HL6 := Lib.hid hl6
  clear hp hm pv R6 hl6
  have own0 : (w2.alloc (.cells #[] 5)).ownsRow w2.heap.size 5 1 (.slice (some ⟨w2.heap.size, 0, none⟩) 0 0) ([] : List Nat).length (cellsOf []) := World.ownsRow_lit w2 #[] 0 (Nat.le_refl _) (by unfold maxLen; omega) rfl
  have hb2a : Below w.heap.size w (w2.alloc (.cells #[] 5)) := hb2.alloc hb2.size _
  have hb2b : Below w2.heap.size w2 (w2.alloc (.cells #[] 5)) := (Below.refl _ _).alloc (Nat.le_refl _) _
  have HSL : Hid (∀ (A : Option Addr) (cc : Nat), Value.slice A (m + 4) cc = .slice A p.length cc) := fun A cc => by rw [HL6.out]
  go_wp2_with (first
    | (at_builtin; refine wpList_append_rd rfl (.tmp 25) (.tmp 26) rfl w2.heap.size i0 hi hz0 hz1 hz2 (.slice (some ⟨w2.heap.size, 0, none⟩) 0 0) [] rfl own0 w2.heap.size (some ⟨b6, o6, none⟩) c6 p (HSL.out _ _) (by simp) (HP.out.below hb2b) (by rw [HL6.out]; simp; omega) hb2b.size ?_
       intro v3 w3 hown3 hg3
       have hb3 : Below w.heap.size w w3 := hb2a.grown hg3 hb2a.size (fun k hk => Nat.le_trans hb2.size (own0.lt k hk).1)
       have hb23 : Below w2.heap.size w2 w3 := hb2b.grown hg3 hb2b.size (fun k hk => (own0.lt k hk).1))
    | (at_builtin; refine wpList_append_rd rfl (.tmp 27) (.tmp 29) rfl w2.heap.size i0 hi hz0 hz1 hz2 v3 ([] ++ p) rfl (hown3.alloc _) (w3.heap.size + 1) (some ⟨w3.heap.size, 0, none⟩) 1 [c] rfl (by simp) (new1 w3 c) (by rw [List.nil_append, HL6.out]; simp; omega) (by have := hb23.size; simp; omega) ?_
       intro v4 w4 hown4 hg4
       have hb4 : Below w.heap.size w w4 := (hb3.alloc hb3.size _).grown hg4 (by have := hb3.size; simp; omega) (fun k hk => Nat.le_trans hb2.size (hown3.lt k hk).1)
       rw [List.nil_append] at hown4
       obtain ⟨q, hq⟩ : ∃ q : List Nat, q = p ++ [c] := ⟨_, rfl⟩
       rw [← hq] at hown4
       have HQ := Lib.hid hq
       clear hq
       obtain ⟨A9, c9, hv9, k9, m9, z9, _, R9⟩ := rd_own hown4
       rw [hv9]
       clear hv9 hown4))
  have hlq : q.length = m + 1 + 4 := by rw [HQ.out, List.length_append, HL6.out]; rfl
  have hb24 : Below w2.heap.size w2 w4 := (hb23.alloc hb23.size _).grown hg4 (by have := hb23.size; simp; omega) (fun k hk => (hown3.lt k hk).1)
  obtain ⟨b9, o9, rfl, hb9, hc9⟩ := R9 (by omega)
  rw [hlq] at k9 ⊢
  have HLQ := Lib.hid hlq
  clear hlq own0 hown3
  have qv : ∀ v ∈ q, v < 256 := by
    intro v hv
    rw [HQ.out] at hv
    rcases List.mem_append.1 hv with h | h
    · exact PV.out v h
    · simp at h; omega
  obtain ⟨x', hx'⟩ : ∃ x' : List Nat, x' = q.take (m + 1) := ⟨_, rfl⟩
  obtain ⟨y', hy'⟩ : ∃ y' : List Nat, y' = q.drop (m + 1) := ⟨_, rfl⟩
  have hxl : x'.length = m + 1 := by rw [hx', List.length_take, HLQ.out]; omega
  have hyl : y'.length = 4 := by rw [hy', List.length_drop, HLQ.out]; omega
  have hxy : x' ++ y' = q := by rw [hx', hy']; exact List.take_append_drop _ _
  have hxv : ∀ v ∈ x', v < 256 := by rw [hx']; exact lt_take qv _
  have hyv : ∀ v ∈ y', v < 256 := by rw [hy']; exact fun v hv => qv v (List.mem_of_mem_drop hv)
  have hxp : p.take (m + 1) = x' := by rw [hx', HQ.out, List.take_append_of_le_length (by rw [HL6.out]; omega)]
  have T4 := HT.out.below h0 hb4
  rw [← hxy] at hc9
  have HXP := Lib.hid hxp
  have HXL := Lib.hid hxl
  clear hx' hy' hxy qv hxp
  by_cases hch : y' = le4 (goN 0 x')
  · rw [hch] at hc9
    have TK := Lib.hid (take_ok b9 o9 c9 (m + 1) x' w4 hxl (by omega) k9 hxv hb9 hc9 T4 (Nat.lt_of_lt_of_le h0 hb4.size))
    clear hc9 T4 hch hxl hyl hxv hyv
    refine TK.out.mono ?_
    rintro e w5 ⟨A10, c10, rfl, R10, hb5⟩
    rw [HXL.out]
    have hb5' := hb4.trans (hb5.mono hb4.size)
    have hb25 := hb24.trans (hb5.mono hb24.size)
    have RP5 := (HP.out.below hb25).take (m + 1)
    rw [HXP.out] at RP5
    have q1 : ∀ n cc, (convert 22 9 (.slice (some ⟨b6, o6, none⟩) (m + 1) cc)).run Tryd.prog (w5.drewN n) = .ok (.string (strN x')) (w5.drewN n) := fun n cc => by
      have := conv_rd (w5.drewN n) w2.heap.size cc _ x' RP5
      rw [HXL.out] at this
      exact this
    have q2 : ∀ n cc, (convert 22 9 (.slice A10 (m + 1) cc)).run Tryd.prog (w5.drewN n) = .ok (.string (strN x')) (w5.drewN n) := fun n cc => by
      have := conv_rd (w5.drewN n) w5.heap.size cc _ x' R10
      rw [HXL.out] at this
      exact this
    clear RP5
    go_wp2_with fail
    have e9 : IntKind.i64.wrap ((m : Int) + 4 - 3) = (m : Int) + 1 := by rw [IntWalk.i64_in _ (by omega)]; omega
    have e10 : (0 : Int) ≤ (m : Int) + 1 := by omega
    have e11 : (m : Int) + 1 ≤ (c6 : Int) := by omega
    have e12 : ((m : Int) + 1).toNat = m + 1 := by omega
    go_quiet (fail)
    clear e9 e10 e11 e12 q1 q2
    have hbT : Below w.heap.size w (w5.drewN nq) := hb5'.trans ⟨rfl, rfl, rfl, Nat.le_refl _, fun _ _ => rfl⟩
    have hb2T : Below w2.heap.size w2 (w5.drewN nq) := hb25.trans ⟨rfl, rfl, rfl, Nat.le_refl _, fun _ _ => rfl⟩
    go_wp2_with fail
    refine (take_short (some ⟨b6, o6, none⟩) 3 c6 (by omega) _).mono ?_
    rintro e w7 ⟨rfl, hb7⟩
    have hb7' : Below w.heap.size w w7 := hbT.trans (hb7.mono hbT.size)
    have own7 : (w7.alloc (.cells #[.int .u8 0] 5)).ownsRow w.heap.size 5 1 (.slice (some ⟨w7.heap.size, 0, none⟩) 1 1) ([0] : List Nat).length (cellsOf [0]) := World.ownsRow_lit w7 #[.int .u8 0] 1 hb7'.size (by unfold maxLen; omega) rfl
    have hb7a : Below w.heap.size w (w7.alloc (.cells #[.int .u8 0] 5)) := hb7'.alloc hb7'.size _
    have hb27 : Below w2.heap.size w2 (w7.alloc (.cells #[.int .u8 0] 5)) := (hb2T.trans (hb7.mono hb2T.size)).alloc (Nat.le_trans hb2T.size hb7.size) _
    have RP7 := Lib.hid (HP.out.below hb27)
    go_wp2_with (at_builtin; refine wpList_append_rd rfl (.tmp 56) (.tmp 57) rfl w.heap.size i0 hi hz0 hz1 hz2 (.slice (some ⟨w7.heap.size, 0, none⟩) 1 1) [0] rfl own7 w2.heap.size (some ⟨b6, o6, none⟩) c6 p (HSL.out _ _) (by simp) RP7.out (by rw [HL6.out]; simp; omega) hb7a.size ?_
                 intro v8 w8 hown8 hg8
                 have hb8 : Below w.heap.size w w8 := hb7a.grown hg8 hb7a.size (fun k hk => (own7.lt k hk).1)
                 obtain ⟨q8, hq8⟩ : ∃ q : List Nat, q = [0] ++ p := ⟨_, rfl⟩
                 rw [← hq8] at hown8
                 have HQ8 := Lib.hid hq8
                 clear hq8
                 obtain ⟨A8, c8, hv8, k8, m8, z8, _, R8⟩ := rd_own hown8
                 rw [hv8]
                 clear hv8 hown8)
    have hl8 : q8.length = (m + 1) + 4 := by rw [HQ8.out, List.length_append, HL6.out]; simp; omega
    obtain ⟨b8, o8, rfl, hb8', hc8⟩ := R8 (by omega)
    rw [hl8] at k8 ⊢
    have T8 := HT.out.below h0 hb8
    have hc8' : HasBytes w8 b8 o8 ((0 :: x) ++ le4 (goN 0 x)) := by
      have : q8 = (0 :: x) ++ le4 (goN 0 x) := by rw [HQ8.out, HPD.out]; rfl
      rw [← this]; exact hc8
    have hgx := goN_lt 0 x (by omega) L1.out
    have TB := take_bad b8 o8 c8 (m + 1) (0 :: x) (le4 (goN 0 x)) w8 (by rw [List.length_cons, HM.out]) (by omega) (by omega) (by intro v hv; rcases List.mem_cons.1 hv with h | h; omega; exact L1.out v h) (le4_lt _ hgx) (by simp [le4]) (fun e => goN_ahead x L1.out (le4_inj e).symm) hb8' hc8' T8 (Nat.lt_of_lt_of_le h0 hb8.size)
    have TBH := Lib.hid TB
    clear TB hc8 hc8' T8 hl8 own7
    refine (TBH.out).mono ?_
    rintro e w9 ⟨rfl, hb9x⟩
    have HB9 := Lib.hid (hb8.trans (hb9x.mono hb8.size))
    go_wp2
    go_ret
    exact ⟨rfl, HB9.out⟩
  · have TK := Lib.hid (take_bad b9 o9 c9 (m + 1) x' y' w4 hxl (by omega) k9 hxv hyv hyl hch hb9 hc9 T4 (Nat.lt_of_lt_of_le h0 hb4.size))
    clear hc9 T4 hch hxl hyl hxv hyv
    refine TK.out.mono ?_
    rintro e w5 ⟨rfl, hb5⟩
    have hb5' := hb4.trans (hb5.mono hb4.size)
    have hb25 := hb24.trans (hb5.mono hb24.size)
    go_wp2_with fail
    go_quiet (fail)
    have hbT : Below w.heap.size w (w5.drewN nq) := hb5'.trans ⟨rfl, rfl, rfl, Nat.le_refl _, fun _ _ => rfl⟩
    have hb2T : Below w2.heap.size w2 (w5.drewN nq) := hb25.trans ⟨rfl, rfl, rfl, Nat.le_refl _, fun _ _ => rfl⟩
    go_wp2_with fail
    refine (take_short (some ⟨b6, o6, none⟩) 3 c6 (by omega) _).mono ?_
    rintro e w7 ⟨rfl, hb7⟩
    have hb7' : Below w.heap.size w w7 := hbT.trans (hb7.mono hbT.size)
    have own7 : (w7.alloc (.cells #[.int .u8 0] 5)).ownsRow w.heap.size 5 1 (.slice (some ⟨w7.heap.size, 0, none⟩) 1 1) ([0] : List Nat).length (cellsOf [0]) := World.ownsRow_lit w7 #[.int .u8 0] 1 hb7'.size (by unfold maxLen; omega) rfl
    have hb7a : Below w.heap.size w (w7.alloc (.cells #[.int .u8 0] 5)) := hb7'.alloc hb7'.size _
    have hb27 : Below w2.heap.size w2 (w7.alloc (.cells #[.int .u8 0] 5)) := (hb2T.trans (hb7.mono hb2T.size)).alloc (Nat.le_trans hb2T.size hb7.size) _
    have RP7 := Lib.hid (HP.out.below hb27)
    go_wp2_with (at_builtin; refine wpList_append_rd rfl (.tmp 56) (.tmp 57) rfl w.heap.size i0 hi hz0 hz1 hz2 (.slice (some ⟨w7.heap.size, 0, none⟩) 1 1) [0] rfl own7 w2.heap.size (some ⟨b6, o6, none⟩) c6 p (HSL.out _ _) (by simp) RP7.out (by rw [HL6.out]; simp; omega) hb7a.size ?_
                 intro v8 w8 hown8 hg8
                 have hb8 : Below w.heap.size w w8 := hb7a.grown hg8 hb7a.size (fun k hk => (own7.lt k hk).1)
                 obtain ⟨q8, hq8⟩ : ∃ q : List Nat, q = [0] ++ p := ⟨_, rfl⟩
                 rw [← hq8] at hown8
                 have HQ8 := Lib.hid hq8
                 clear hq8
                 obtain ⟨A8, c8, hv8, k8, m8, z8, _, R8⟩ := rd_own hown8
                 rw [hv8]
                 clear hv8 hown8)
    have hl8 : q8.length = (m + 1) + 4 := by rw [HQ8.out, List.length_append, HL6.out]; simp; omega
    obtain ⟨b8, o8, rfl, hb8', hc8⟩ := R8 (by omega)
    rw [hl8] at k8 ⊢
    have T8 := HT.out.below h0 hb8
    have hc8' : HasBytes w8 b8 o8 ((0 :: x) ++ le4 (goN 0 x)) := by
      have : q8 = (0 :: x) ++ le4 (goN 0 x) := by rw [HQ8.out, HPD.out]; rfl
      rw [← this]; exact hc8
    have hgx := goN_lt 0 x (by omega) L1.out
    have TB := take_bad b8 o8 c8 (m + 1) (0 :: x) (le4 (goN 0 x)) w8 (by rw [List.length_cons, HM.out]) (by omega) (by omega) (by intro v hv; rcases List.mem_cons.1 hv with h | h; omega; exact L1.out v h) (le4_lt _ hgx) (by simp [le4]) (fun e => goN_ahead x L1.out (le4_inj e).symm) hb8' hc8' T8 (Nat.lt_of_lt_of_le h0 hb8.size)
    have TBH := Lib.hid TB
    clear TB hc8 hc8' T8 hl8 own7
    refine (TBH.out).mono ?_
    rintro e w9 ⟨rfl, hb9x⟩
    have HB9 := Lib.hid (hb8.trans (hb9x.mono hb8.size))
    go_wp2
    go_ret
    exact ⟨rfl, HB9.out⟩
end Go.Proofs.YtpighdioomjnmacDoor
