/-
  Layer 20: the walk of CrcParts. Written by an AI agent.
-/
import Derived.Test.YtpighdioomjnmabDoorCrcD
namespace Go.Proofs.YtpighdioomjnmabDoor
open Go.RowKit

theorem Rd.more {w : World} {B B' : Nat} {A : Option Addr} {l : List Nat} (h : Rd w B A l) (hB : B ≤ B') : Rd w B' A l := fun hn => by
  obtain ⟨b, off, e, hb, hc⟩ := h hn
  exact ⟨b, off, e, by omega, hc⟩
theorem lt_take {l : List Nat} (h : ∀ v ∈ l, v < 256) (k : Nat) : ∀ v ∈ l.take k, v < 256 := fun v hv => h v (List.mem_of_mem_take hv)

set_option maxRecDepth 100000 in
set_option maxHeartbeats 4000000 in
theorem parts_walk (A1 A2 : Option Addr) (c1 c2 : Nat) (a b : List Nat) (n : Nat) (w : World) (hn : n < 4294967296)
    (m1 : a.length ≤ 9223372036854775807) (m2 : b.length ≤ 9223372036854775807) (k1 : a.length ≤ c1) (k2 : b.length ≤ c2) (z1 : A1 = none → c1 = 0) (z2 : A2 = none → c2 = 0)
    (l1 : ∀ v ∈ a, v < 256) (l2 : ∀ v ∈ b, v < 256) (r1 : Rd w w.heap.size A1 a) (r2 : Rd w w.heap.size A2 b) (ht : HasTab w) (h0 : 0 < w.heap.size) :
    Calls Tryd.prog 4 #[.slice A1 a.length c1, .slice A2 b.length c2, .int .u32 (n : Int)] w fun e w' => e = .returned (.bool true) ∧ Below w.heap.size w w' := by
  obtain ⟨i0, hi, hz0, hz1, hz2⟩ := info_parts info5
  have S1 := Lib.hid (fun w => short_rd c1 A1 a w m1 k1)
  have S2 := Lib.hid (fun w => short_rd c2 A2 b w m2 k2)
  obtain ⟨x, hx⟩ : ∃ x : List Nat, x = a.take 2000 := ⟨_, rfl⟩
  obtain ⟨y, hy⟩ : ∃ y : List Nat, y = b.take 2000 := ⟨_, rfl⟩
  have e1 : x.length ≤ 2000 := by rw [hx]; simp; omega
  have e2 : y.length ≤ 2000 := by rw [hy]; simp; omega
  have L1 := Lib.hid (show ∀ v ∈ x, v < 256 by rw [hx]; exact lt_take l1 2000)
  have L2 := Lib.hid (show ∀ v ∈ y, v < 256 by rw [hy]; exact lt_take l2 2000)
  have R1 := Lib.hid (show Rd w w.heap.size A1 x by rw [hx]; exact r1.take 2000)
  have R2 := Lib.hid (show Rd w w.heap.size A2 y by rw [hy]; exact r2.take 2000)
  rw [← hx] at S1
  rw [← hy] at S2
  have Z1 := Lib.hid z1
  have Z2 := Lib.hid z2
  have HT := Lib.hid ht
  clear hx hy l1 l2 r1 r2 ht z1 z2
  go_enter Tryd.func4, Tryd.ntmps4
  go_wp2_with fail
  refine (shown_any w HT.out h0).mono ?_
  rintro e w1 ⟨rfl, hb1⟩
  go_wp2_with fail
  refine (S1.out _).mono ?_
  rintro e w1' ⟨rfl, rfl⟩
  go_wp2_with fail
  refine (S2.out _).mono ?_
  rintro e w1' ⟨rfl, rfl⟩
  have own0 : (w1.alloc (.cells #[] 5)).ownsRow w.heap.size 5 1 (.slice (some ⟨w1.heap.size, 0, none⟩) 0 0) ([] : List Nat).length (cellsOf []) := World.ownsRow_lit w1 #[] 0 hb1.size (by unfold maxLen; omega) rfl
  have hb1' : Below w.heap.size w (w1.alloc (.cells #[] 5)) := hb1.alloc hb1.size _
  go_wp2_with (first
    | (at_builtin; refine wpList_append_rd rfl (.tmp 16) (.tmp 17) rfl w.heap.size i0 hi hz0 hz1 hz2 (.slice (some ⟨w1.heap.size, 0, none⟩) 0 0) [] rfl own0 w.heap.size A1 c1 x rfl Z1.out (R1.out.below hb1') (by simp; omega) hb1'.size ?_
       intro v2 w2 hown2 hg2
       have hb2 : Below w.heap.size w w2 := hb1'.grown hg2 hb1'.size (fun k hk => (own0.lt k hk).1))
    | (at_builtin; refine wpList_append_rd rfl (.tmp 18) (.tmp 19) rfl w.heap.size i0 hi hz0 hz1 hz2 v2 ([] ++ x) rfl hown2 w.heap.size A2 c2 y rfl Z2.out (R2.out.below hb2) (by simp; omega) hb2.size ?_
       intro v3 w3 hown3 hg3
       have hb3 : Below w.heap.size w w3 := hb2.grown hg3 hb2.size (fun k hk => (hown2.lt k hk).1)
       rw [List.nil_append] at hown3
       obtain ⟨z, hz⟩ : ∃ z : List Nat, z = x ++ y := ⟨_, rfl⟩
       rw [← hz] at hown3
       have HZ := Lib.hid hz
       clear hz
       obtain ⟨A8, c8, hv8, k8, m8, z8, _, R8⟩ := rd_own hown3
       rw [hv8]
       clear hv8 hown3))
  have hzl : z.length ≤ 4000 := by rw [HZ.out]; simp; omega
  have hzv : ∀ v ∈ z, v < 256 := by
    intro v hv
    rw [HZ.out] at hv
    rcases List.mem_append.1 hv with h | h
    · exact L1.out v h
    · exact L2.out v h
  have hgz : goN n z = goN (goN n x) y := by rw [HZ.out]; exact goN_append n x y
  have T3 := HT.out.below h0 hb3
  refine (put_rd w3.heap.size c8 A8 z w3 (by omega) z8 hzv R8 T3 (Nat.le_refl _) (Nat.lt_of_lt_of_le h0 hb3.size)).mono ?_
  rintro e w4 ⟨A9, c9, rfl, k9, m9, z9, R9, hb4⟩
  obtain ⟨b9, o9, rfl, hb9, hc9⟩ := R9 (by simp [le4])
  have hl9 : (z ++ le4 (goN 0 z)).length = z.length + 4 := by simp [le4]
  rw [hl9] at k9 ⊢
  have hb4' : Below w.heap.size w w4 := hb3.trans (hb4.mono hb3.size)
  have T4 := HT.out.below h0 hb4'
  have K9 := Lib.hid (take_ok b9 o9 c9 z.length z w4 rfl (by omega) k9 hzv hb9 hc9 T4 (Nat.lt_of_lt_of_le h0 hb4'.size))
  have R8' := R8.below hb4
  clear hl9 hc9 T4 T3 own0
  go_wp2_with fail
  refine K9.out.mono ?_
  rintro e w5 ⟨A10, c10, rfl, R10, hb5⟩
  have hb5' : Below w.heap.size w w5 := hb4'.trans (hb5.mono hb4'.size)
  have T5 := HT.out.below h0 hb5'
  have R85 : Rd w5 w5.heap.size A8 z := (R8'.more hb4.size).below hb5 |>.more hb5.size
  have R15 := (R1.out.below hb5')
  have R25 := (R2.out.below hb5')
  have G1 := go_rd w5.heap.size c8 A8 z n w5 (by omega) hn hzv R85 T5
  rw [hgz] at G1
  have hgx := goN_lt n x hn L1.out
  have G2 := go_rd w.heap.size c1 A1 x n w5 (by omega) hn L1.out R15 T5
  have G3 := go_rd w.heap.size c2 A2 y (goN n x) w5 (by omega) hgx L2.out R25 T5
  have q1 := conv_rd w5 w5.heap.size c10 A10 z R10
  have q2 := conv_rd w5 w5.heap.size c8 A8 z R85
  have H1 := Lib.hid G1
  have H2 := Lib.hid G2
  have H3 := Lib.hid G3
  clear G1 G2 G3 hgz
  go_wp2_with fail
  refine H1.out.mono ?_
  rintro e w5' ⟨rfl, rfl⟩
  go_wp2_with fail
  refine H2.out.mono ?_
  rintro e w5' ⟨rfl, rfl⟩
  go_wp2_with fail
  refine H3.out.mono ?_
  rintro e w5' ⟨rfl, rfl⟩
  go_wp2_with fail
  refine (go_nil none 0 n w5 hn).mono ?_
  rintro e w5' ⟨rfl, rfl⟩
  go_wp2
  go_ret
  exact ⟨rfl, hb5'⟩
end Go.Proofs.YtpighdioomjnmabDoor
