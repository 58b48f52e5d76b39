/-
  Layer 5: the walk of ValueRings. Written by an AI agent.
-/
import Derived.Test.YtpighdioomjnmaaDoorValB
namespace Go.Proofs.YtpighdioomjnmaaDoor
open Go.RowKit

theorem up_cell {w0 w1 : World} {o : Obj} {b k : Nat} {v : Value} (hb : Below (w0.alloc o).heap.size (w0.alloc o) w1) (hlt : b < w0.heap.size) (hc : w0.cell? ⟨b, k, none⟩ = some v) : w1.cell? ⟨b, k, none⟩ = some v :=
  (hb.cell (p := ⟨b, k, none⟩) (by simp; omega)).trans ((((Below.refl w0.heap.size w0).alloc (Nat.le_refl _) o).cell (p := ⟨b, k, none⟩) hlt).trans hc)
theorem new_cell {w0 w1 : World} {c0 c1 c2 : Value} {t : TypeId} (hb : Below (w0.alloc (.cells #[c0, c1, c2] t)).heap.size (w0.alloc (.cells #[c0, c1, c2] t)) w1) :
    w1.cell? ⟨w0.heap.size, 0, none⟩ = some c0 ∧ w1.cell? ⟨w0.heap.size, 1, none⟩ = some c1 ∧ w1.cell? ⟨w0.heap.size, 2, none⟩ = some c2 :=
  ⟨(hb.cell (p := ⟨w0.heap.size, 0, none⟩) (by simp)).trans (by simp), (hb.cell (p := ⟨w0.heap.size, 1, none⟩) (by simp)).trans (by simp), (hb.cell (p := ⟨w0.heap.size, 2, none⟩) (by simp)).trans (by simp)⟩
theorem up_size {w0 w1 : World} {o : Obj} {b : Nat} (hb : Below (w0.alloc o).heap.size (w0.alloc o) w1) (hlt : b ≤ w0.heap.size) : b < w1.heap.size := by
  have := hb.size
  simp at this
  omega
theorem up_below {W w0 w1 : World} {o : Obj} (hb : Below (w0.alloc o).heap.size (w0.alloc o) w1) (h : Below W.heap.size W w0) : Below W.heap.size W w1 :=
  (h.alloc h.size o).trans (hb.mono (by have := h.size; simp; omega))

theorem w64_mod (n : Int) : ∃ k : Int, wrap64 n = n + 18446744073709551616 * k := by
  refine ⟨-((n + 9223372036854775808) / 18446744073709551616), ?_⟩
  unfold wrap64
  omega
theorem w64_shift (n k : Int) : wrap64 (n + 18446744073709551616 * k) = wrap64 n := by
  unfold wrap64
  omega
theorem w64_assoc (a b c : Int) : wrap64 (a + wrap64 (b + c)) = wrap64 (wrap64 (a + b) + c) := by
  unfold wrap64
  omega
theorem w64_dist (a b c : Int) : wrap64 (a * wrap64 (b + c)) = wrap64 (wrap64 (a * b) + wrap64 (a * c)) := by
  obtain ⟨k, hk⟩ := w64_mod (b + c)
  obtain ⟨l, hl⟩ := w64_mod (a * b)
  obtain ⟨m, hm⟩ := w64_mod (a * c)
  rw [hk, hl, hm]
  have e1 : a * (b + c + 18446744073709551616 * k) = (a * b + a * c) + 18446744073709551616 * (a * k) := by
    rw [Int.mul_add, Int.mul_add, Int.mul_left_comm]
  have e2 : a * b + 18446744073709551616 * l + (a * c + 18446744073709551616 * m) = (a * b + a * c) + 18446744073709551616 * (l + m) := by
    rw [Int.mul_add]; omega
  rw [e1, e2, w64_shift, w64_shift]

set_option maxHeartbeats 1000000 in
theorem rings_walk (a b c : Int) (w : World) :
    Calls Tryd.prog 9 #[.int .i64 a, .int .i64 b, .int .i64 c] w fun e w' => e = .returned (.bool true) ∧ Below w.heap.size w w' := by
  go_enter Tryd.func9, Tryd.ntmps9
  go_wp2_with fail
  refine (shown_any _).mono ?_
  rintro e w0 ⟨rfl, B0⟩
  go_wp2_with fail
  refine (int_any _ _).mono ?_
  rintro e w1 ⟨rfl, hb⟩
  have B1 := keep_below B0 hb
  clear hb B0
  go_wp2_with fail
  refine (int_any _ _).mono ?_
  rintro e w2 ⟨rfl, hb⟩
  have B2 := up_below hb B1
  obtain ⟨d10, d11, d12⟩ := new_cell hb
  have y1 : w1.heap.size < w2.heap.size := up_size hb (Nat.le_refl _)
  clear hb B1
  go_wp2_with fail
  refine (int_any _ _).mono ?_
  rintro e w3 ⟨rfl, hb⟩
  have B3 := up_below hb B2
  obtain ⟨d20, d21, d22⟩ := new_cell hb
  have y2 : w2.heap.size < w3.heap.size := up_size hb (Nat.le_refl _)
  replace d10 := up_cell hb y1 d10
  replace d11 := up_cell hb y1 d11
  replace d12 := up_cell hb y1 d12
  replace y1 := up_size hb (Nat.le_of_lt y1)
  clear hb B2
  go_wp2_with fail
  refine (bin_add _ _ _).mono ?_
  rintro e w4 ⟨rfl, hb⟩
  have B4 := up_below hb B3
  obtain ⟨d30, d31, d32⟩ := new_cell hb
  have y3 : w3.heap.size < w4.heap.size := up_size hb (Nat.le_refl _)
  replace d10 := up_cell hb y1 d10
  replace d11 := up_cell hb y1 d11
  replace d12 := up_cell hb y1 d12
  replace y1 := up_size hb (Nat.le_of_lt y1)
  replace d20 := up_cell hb y2 d20
  replace d21 := up_cell hb y2 d21
  replace d22 := up_cell hb y2 d22
  replace y2 := up_size hb (Nat.le_of_lt y2)
  clear hb B3
  go_wp2_with fail
  refine (bin_add _ _ _).mono ?_
  rintro e w5 ⟨rfl, hb⟩
  have B5 := up_below hb B4
  obtain ⟨d40, d41, d42⟩ := new_cell hb
  have y4 : w4.heap.size < w5.heap.size := up_size hb (Nat.le_refl _)
  replace d10 := up_cell hb y1 d10
  replace d11 := up_cell hb y1 d11
  replace d12 := up_cell hb y1 d12
  replace y1 := up_size hb (Nat.le_of_lt y1)
  replace d20 := up_cell hb y2 d20
  replace d21 := up_cell hb y2 d21
  replace d22 := up_cell hb y2 d22
  replace y2 := up_size hb (Nat.le_of_lt y2)
  replace d30 := up_cell hb y3 d30
  replace d31 := up_cell hb y3 d31
  replace d32 := up_cell hb y3 d32
  replace y3 := up_size hb (Nat.le_of_lt y3)
  clear hb B4
  go_wp2_with fail
  refine (bin_add _ _ _).mono ?_
  rintro e w6 ⟨rfl, hb⟩
  have B6 := up_below hb B5
  obtain ⟨d50, d51, d52⟩ := new_cell hb
  have y5 : w5.heap.size < w6.heap.size := up_size hb (Nat.le_refl _)
  replace d10 := up_cell hb y1 d10
  replace d11 := up_cell hb y1 d11
  replace d12 := up_cell hb y1 d12
  replace y1 := up_size hb (Nat.le_of_lt y1)
  replace d20 := up_cell hb y2 d20
  replace d21 := up_cell hb y2 d21
  replace d22 := up_cell hb y2 d22
  replace y2 := up_size hb (Nat.le_of_lt y2)
  replace d30 := up_cell hb y3 d30
  replace d31 := up_cell hb y3 d31
  replace d32 := up_cell hb y3 d32
  replace y3 := up_size hb (Nat.le_of_lt y3)
  replace d40 := up_cell hb y4 d40
  replace d41 := up_cell hb y4 d41
  replace d42 := up_cell hb y4 d42
  replace y4 := up_size hb (Nat.le_of_lt y4)
  clear hb B5
  go_wp2_with fail
  refine (bin_add _ _ _).mono ?_
  rintro e w7 ⟨rfl, hb⟩
  have B7 := up_below hb B6
  obtain ⟨d60, d61, d62⟩ := new_cell hb
  have y6 : w6.heap.size < w7.heap.size := up_size hb (Nat.le_refl _)
  replace d10 := up_cell hb y1 d10
  replace d11 := up_cell hb y1 d11
  replace d12 := up_cell hb y1 d12
  replace y1 := up_size hb (Nat.le_of_lt y1)
  replace d20 := up_cell hb y2 d20
  replace d21 := up_cell hb y2 d21
  replace d22 := up_cell hb y2 d22
  replace y2 := up_size hb (Nat.le_of_lt y2)
  replace d30 := up_cell hb y3 d30
  replace d31 := up_cell hb y3 d31
  replace d32 := up_cell hb y3 d32
  replace y3 := up_size hb (Nat.le_of_lt y3)
  replace d40 := up_cell hb y4 d40
  replace d41 := up_cell hb y4 d41
  replace d42 := up_cell hb y4 d42
  replace y4 := up_size hb (Nat.le_of_lt y4)
  replace d50 := up_cell hb y5 d50
  replace d51 := up_cell hb y5 d51
  replace d52 := up_cell hb y5 d52
  replace y5 := up_size hb (Nat.le_of_lt y5)
  clear hb B6
  go_wp2_with fail
  refine (bin_add _ _ _).mono ?_
  rintro e w8 ⟨rfl, hb⟩
  have B8 := up_below hb B7
  obtain ⟨d70, d71, d72⟩ := new_cell hb
  have y7 : w7.heap.size < w8.heap.size := up_size hb (Nat.le_refl _)
  replace d10 := up_cell hb y1 d10
  replace d11 := up_cell hb y1 d11
  replace d12 := up_cell hb y1 d12
  replace y1 := up_size hb (Nat.le_of_lt y1)
  replace d20 := up_cell hb y2 d20
  replace d21 := up_cell hb y2 d21
  replace d22 := up_cell hb y2 d22
  replace y2 := up_size hb (Nat.le_of_lt y2)
  replace d30 := up_cell hb y3 d30
  replace d31 := up_cell hb y3 d31
  replace d32 := up_cell hb y3 d32
  replace y3 := up_size hb (Nat.le_of_lt y3)
  replace d40 := up_cell hb y4 d40
  replace d41 := up_cell hb y4 d41
  replace d42 := up_cell hb y4 d42
  replace y4 := up_size hb (Nat.le_of_lt y4)
  replace d50 := up_cell hb y5 d50
  replace d51 := up_cell hb y5 d51
  replace d52 := up_cell hb y5 d52
  replace y5 := up_size hb (Nat.le_of_lt y5)
  replace d60 := up_cell hb y6 d60
  replace d61 := up_cell hb y6 d61
  replace d62 := up_cell hb y6 d62
  replace y6 := up_size hb (Nat.le_of_lt y6)
  clear hb B7
  go_wp2_with fail
  refine (bin_mul _ _ _).mono ?_
  rintro e w9 ⟨rfl, hb⟩
  have B9 := up_below hb B8
  obtain ⟨d80, d81, d82⟩ := new_cell hb
  have y8 : w8.heap.size < w9.heap.size := up_size hb (Nat.le_refl _)
  replace d10 := up_cell hb y1 d10
  replace d11 := up_cell hb y1 d11
  replace d12 := up_cell hb y1 d12
  replace y1 := up_size hb (Nat.le_of_lt y1)
  replace d20 := up_cell hb y2 d20
  replace d21 := up_cell hb y2 d21
  replace d22 := up_cell hb y2 d22
  replace y2 := up_size hb (Nat.le_of_lt y2)
  replace d30 := up_cell hb y3 d30
  replace d31 := up_cell hb y3 d31
  replace d32 := up_cell hb y3 d32
  replace y3 := up_size hb (Nat.le_of_lt y3)
  replace d40 := up_cell hb y4 d40
  replace d41 := up_cell hb y4 d41
  replace d42 := up_cell hb y4 d42
  replace y4 := up_size hb (Nat.le_of_lt y4)
  replace d50 := up_cell hb y5 d50
  replace d51 := up_cell hb y5 d51
  replace d52 := up_cell hb y5 d52
  replace y5 := up_size hb (Nat.le_of_lt y5)
  replace d60 := up_cell hb y6 d60
  replace d61 := up_cell hb y6 d61
  replace d62 := up_cell hb y6 d62
  replace y6 := up_size hb (Nat.le_of_lt y6)
  replace d70 := up_cell hb y7 d70
  replace d71 := up_cell hb y7 d71
  replace d72 := up_cell hb y7 d72
  replace y7 := up_size hb (Nat.le_of_lt y7)
  clear hb B8
  go_wp2_with fail
  refine (bin_mul _ _ _).mono ?_
  rintro e w10 ⟨rfl, hb⟩
  have B10 := up_below hb B9
  obtain ⟨d90, d91, d92⟩ := new_cell hb
  have y9 : w9.heap.size < w10.heap.size := up_size hb (Nat.le_refl _)
  replace d10 := up_cell hb y1 d10
  replace d11 := up_cell hb y1 d11
  replace d12 := up_cell hb y1 d12
  replace y1 := up_size hb (Nat.le_of_lt y1)
  replace d20 := up_cell hb y2 d20
  replace d21 := up_cell hb y2 d21
  replace d22 := up_cell hb y2 d22
  replace y2 := up_size hb (Nat.le_of_lt y2)
  replace d30 := up_cell hb y3 d30
  replace d31 := up_cell hb y3 d31
  replace d32 := up_cell hb y3 d32
  replace y3 := up_size hb (Nat.le_of_lt y3)
  replace d40 := up_cell hb y4 d40
  replace d41 := up_cell hb y4 d41
  replace d42 := up_cell hb y4 d42
  replace y4 := up_size hb (Nat.le_of_lt y4)
  replace d50 := up_cell hb y5 d50
  replace d51 := up_cell hb y5 d51
  replace d52 := up_cell hb y5 d52
  replace y5 := up_size hb (Nat.le_of_lt y5)
  replace d60 := up_cell hb y6 d60
  replace d61 := up_cell hb y6 d61
  replace d62 := up_cell hb y6 d62
  replace y6 := up_size hb (Nat.le_of_lt y6)
  replace d70 := up_cell hb y7 d70
  replace d71 := up_cell hb y7 d71
  replace d72 := up_cell hb y7 d72
  replace y7 := up_size hb (Nat.le_of_lt y7)
  replace d80 := up_cell hb y8 d80
  replace d81 := up_cell hb y8 d81
  replace d82 := up_cell hb y8 d82
  replace y8 := up_size hb (Nat.le_of_lt y8)
  clear hb B9
  go_wp2_with fail
  refine (bin_mul _ _ _).mono ?_
  rintro e w11 ⟨rfl, hb⟩
  have B11 := up_below hb B10
  obtain ⟨d100, d101, d102⟩ := new_cell hb
  have y10 : w10.heap.size < w11.heap.size := up_size hb (Nat.le_refl _)
  replace d10 := up_cell hb y1 d10
  replace d11 := up_cell hb y1 d11
  replace d12 := up_cell hb y1 d12
  replace y1 := up_size hb (Nat.le_of_lt y1)
  replace d20 := up_cell hb y2 d20
  replace d21 := up_cell hb y2 d21
  replace d22 := up_cell hb y2 d22
  replace y2 := up_size hb (Nat.le_of_lt y2)
  replace d30 := up_cell hb y3 d30
  replace d31 := up_cell hb y3 d31
  replace d32 := up_cell hb y3 d32
  replace y3 := up_size hb (Nat.le_of_lt y3)
  replace d40 := up_cell hb y4 d40
  replace d41 := up_cell hb y4 d41
  replace d42 := up_cell hb y4 d42
  replace y4 := up_size hb (Nat.le_of_lt y4)
  replace d50 := up_cell hb y5 d50
  replace d51 := up_cell hb y5 d51
  replace d52 := up_cell hb y5 d52
  replace y5 := up_size hb (Nat.le_of_lt y5)
  replace d60 := up_cell hb y6 d60
  replace d61 := up_cell hb y6 d61
  replace d62 := up_cell hb y6 d62
  replace y6 := up_size hb (Nat.le_of_lt y6)
  replace d70 := up_cell hb y7 d70
  replace d71 := up_cell hb y7 d71
  replace d72 := up_cell hb y7 d72
  replace y7 := up_size hb (Nat.le_of_lt y7)
  replace d80 := up_cell hb y8 d80
  replace d81 := up_cell hb y8 d81
  replace d82 := up_cell hb y8 d82
  replace y8 := up_size hb (Nat.le_of_lt y8)
  replace d90 := up_cell hb y9 d90
  replace d91 := up_cell hb y9 d91
  replace d92 := up_cell hb y9 d92
  replace y9 := up_size hb (Nat.le_of_lt y9)
  clear hb B10
  go_wp2_with fail
  refine (bin_mul _ _ _).mono ?_
  rintro e w12 ⟨rfl, hb⟩
  have B12 := up_below hb B11
  obtain ⟨d110, d111, d112⟩ := new_cell hb
  have y11 : w11.heap.size < w12.heap.size := up_size hb (Nat.le_refl _)
  replace d10 := up_cell hb y1 d10
  replace d11 := up_cell hb y1 d11
  replace d12 := up_cell hb y1 d12
  replace y1 := up_size hb (Nat.le_of_lt y1)
  replace d20 := up_cell hb y2 d20
  replace d21 := up_cell hb y2 d21
  replace d22 := up_cell hb y2 d22
  replace y2 := up_size hb (Nat.le_of_lt y2)
  replace d30 := up_cell hb y3 d30
  replace d31 := up_cell hb y3 d31
  replace d32 := up_cell hb y3 d32
  replace y3 := up_size hb (Nat.le_of_lt y3)
  replace d40 := up_cell hb y4 d40
  replace d41 := up_cell hb y4 d41
  replace d42 := up_cell hb y4 d42
  replace y4 := up_size hb (Nat.le_of_lt y4)
  replace d50 := up_cell hb y5 d50
  replace d51 := up_cell hb y5 d51
  replace d52 := up_cell hb y5 d52
  replace y5 := up_size hb (Nat.le_of_lt y5)
  replace d60 := up_cell hb y6 d60
  replace d61 := up_cell hb y6 d61
  replace d62 := up_cell hb y6 d62
  replace y6 := up_size hb (Nat.le_of_lt y6)
  replace d70 := up_cell hb y7 d70
  replace d71 := up_cell hb y7 d71
  replace d72 := up_cell hb y7 d72
  replace y7 := up_size hb (Nat.le_of_lt y7)
  replace d80 := up_cell hb y8 d80
  replace d81 := up_cell hb y8 d81
  replace d82 := up_cell hb y8 d82
  replace y8 := up_size hb (Nat.le_of_lt y8)
  replace d90 := up_cell hb y9 d90
  replace d91 := up_cell hb y9 d91
  replace d92 := up_cell hb y9 d92
  replace y9 := up_size hb (Nat.le_of_lt y9)
  replace d100 := up_cell hb y10 d100
  replace d101 := up_cell hb y10 d101
  replace d102 := up_cell hb y10 d102
  replace y10 := up_size hb (Nat.le_of_lt y10)
  clear hb B11
  go_wp2_with fail
  refine (bin_add _ _ _).mono ?_
  rintro e w13 ⟨rfl, hb⟩
  have B13 := up_below hb B12
  obtain ⟨d120, d121, d122⟩ := new_cell hb
  have y12 : w12.heap.size < w13.heap.size := up_size hb (Nat.le_refl _)
  replace d10 := up_cell hb y1 d10
  replace d11 := up_cell hb y1 d11
  replace d12 := up_cell hb y1 d12
  replace y1 := up_size hb (Nat.le_of_lt y1)
  replace d20 := up_cell hb y2 d20
  replace d21 := up_cell hb y2 d21
  replace d22 := up_cell hb y2 d22
  replace y2 := up_size hb (Nat.le_of_lt y2)
  replace d30 := up_cell hb y3 d30
  replace d31 := up_cell hb y3 d31
  replace d32 := up_cell hb y3 d32
  replace y3 := up_size hb (Nat.le_of_lt y3)
  replace d40 := up_cell hb y4 d40
  replace d41 := up_cell hb y4 d41
  replace d42 := up_cell hb y4 d42
  replace y4 := up_size hb (Nat.le_of_lt y4)
  replace d50 := up_cell hb y5 d50
  replace d51 := up_cell hb y5 d51
  replace d52 := up_cell hb y5 d52
  replace y5 := up_size hb (Nat.le_of_lt y5)
  replace d60 := up_cell hb y6 d60
  replace d61 := up_cell hb y6 d61
  replace d62 := up_cell hb y6 d62
  replace y6 := up_size hb (Nat.le_of_lt y6)
  replace d70 := up_cell hb y7 d70
  replace d71 := up_cell hb y7 d71
  replace d72 := up_cell hb y7 d72
  replace y7 := up_size hb (Nat.le_of_lt y7)
  replace d80 := up_cell hb y8 d80
  replace d81 := up_cell hb y8 d81
  replace d82 := up_cell hb y8 d82
  replace y8 := up_size hb (Nat.le_of_lt y8)
  replace d90 := up_cell hb y9 d90
  replace d91 := up_cell hb y9 d91
  replace d92 := up_cell hb y9 d92
  replace y9 := up_size hb (Nat.le_of_lt y9)
  replace d100 := up_cell hb y10 d100
  replace d101 := up_cell hb y10 d101
  replace d102 := up_cell hb y10 d102
  replace y10 := up_size hb (Nat.le_of_lt y10)
  replace d110 := up_cell hb y11 d110
  replace d111 := up_cell hb y11 d111
  replace d112 := up_cell hb y11 d112
  replace y11 := up_size hb (Nat.le_of_lt y11)
  clear hb B12
  rw [show wrap64 (b + a) = wrap64 (a + b) by rw [Int.add_comm]] at d51
  rw [show wrap64 (b * a) = wrap64 (a * b) by rw [Int.mul_comm]] at d101
  rw [w64_assoc] at d81
  rw [w64_dist] at d121
  go_wp2
  go_ret
  exact ⟨rfl, B13.alloc B13.size _⟩
end Go.Proofs.YtpighdioomjnmaaDoor
