/-
  Layer 5: the walk of ValueOrder. Written by an AI agent.
-/
import Derived.Test.YtpighdioomjnmaaDoorValB
namespace Go.Proofs.YtpighdioomjnmaaDoor.order
open Go.RowKit

theorem up_cell {w0 w1 : World} {o : Obj} {b k : Nat} {v : Value} (hb : Below (w0.alloc o).heap.size (w0.alloc o) w1) (hlt : b < w0.heap.size) (hc : w0.cell? ⟨b, k, none⟩ = some v) : w1.cell? ⟨b, k, none⟩ = some v :=
  (hb.cell (p := ⟨b, k, none⟩) (by simp; omega)).trans ((((Below.refl w0.heap.size w0).alloc (Nat.le_refl _) o).cell (p := ⟨b, k, none⟩) hlt).trans hc)
theorem new_cell {w0 w1 : World} {c0 c1 c2 : Value} {t : TypeId} (hb : Below (w0.alloc (.cells #[c0, c1, c2] t)).heap.size (w0.alloc (.cells #[c0, c1, c2] t)) w1) :
    w1.cell? ⟨w0.heap.size, 0, none⟩ = some c0 ∧ w1.cell? ⟨w0.heap.size, 1, none⟩ = some c1 ∧ w1.cell? ⟨w0.heap.size, 2, none⟩ = some c2 :=
  ⟨(hb.cell (p := ⟨w0.heap.size, 0, none⟩) (by simp)).trans (by simp), (hb.cell (p := ⟨w0.heap.size, 1, none⟩) (by simp)).trans (by simp), (hb.cell (p := ⟨w0.heap.size, 2, none⟩) (by simp)).trans (by simp)⟩
theorem up_size {w0 w1 : World} {o : Obj} {b : Nat} (hb : Below (w0.alloc o).heap.size (w0.alloc o) w1) (hlt : b ≤ w0.heap.size) : b < w1.heap.size := by
  have := hb.size
  simp at this
  omega
theorem up_below {W w0 w1 : World} {o : Obj} (hb : Below (w0.alloc o).heap.size (w0.alloc o) w1) (h : Below W.heap.size W w0) : Below W.heap.size W w1 :=
  (h.alloc h.size o).trans (hb.mono (by have := h.size; simp; omega))

set_option maxHeartbeats 400000 in
theorem bin_eq (a b : Int) (w : World) :
    Calls Tryd.prog 13 #[.string { data := #[61, 61] }, .agg #[.int .i64 1, .int .i64 a, .string { data := #[] }], .agg #[.int .i64 1, .int .i64 b, .string { data := #[] }]] w fun e w' => e = .returned (.tuple #[.agg #[.int .i64 2, .int .i64 (bN (decide (a = b))), .string { data := #[] }], .int .i64 0]) ∧ Below w.heap.size w w' := by
  by_cases h : a = b
  · subst h
    go_enter Tryd.func13, Tryd.ntmps13
    go_wp2_with (go_at_call 17; refine (bool_any _ _).mono ?_; rintro e w1 ⟨rfl, hb1⟩; obtain ⟨hc1, hf1⟩ := bcell hb1; have hz1 := hb1.size)
    exact bodyPost_ret (v := .tuple #[.agg #[.int .i64 2, .int .i64 1, .string { data := #[] }], .int .i64 0]) (by simp [results, Tryd.results13, go_sem, hc1, bN]) rfl ⟨by simp [bN], (((((((Below.refl _ _).alloc (Nat.le_refl _) _).alloc (by simp) _).alloc (by simp; omega) _).trans (hb1.mono (by simp; omega))).setCell (by simp; omega) _).setCell (by simp; omega) _).setCell (by simp; omega) _⟩
  · have h' : (a == b) = false := by simpa using h
    go_enter Tryd.func13, Tryd.ntmps13
    go_wp2_with (go_at_call 17; refine (bool_any _ _).mono ?_; rintro e w1 ⟨rfl, hb1⟩; obtain ⟨hc1, hf1⟩ := bcell hb1; have hz1 := hb1.size)
    exact bodyPost_ret (v := .tuple #[.agg #[.int .i64 2, .int .i64 0, .string { data := #[] }], .int .i64 0]) (by simp [results, Tryd.results13, go_sem, hc1, bN]) rfl ⟨by simp [bN, h], (((((((Below.refl _ _).alloc (Nat.le_refl _) _).alloc (by simp) _).alloc (by simp; omega) _).trans (hb1.mono (by simp; omega))).setCell (by simp; omega) _).setCell (by simp; omega) _).setCell (by simp; omega) _⟩

theorem bN_cases (p : Prop) [Decidable p] : (p ∧ bN (decide p) = 1) ∨ (¬ p ∧ bN (decide p) = 0) := by
  by_cases h : p
  · exact .inl ⟨h, by simp [bN, h]⟩
  · exact .inr ⟨h, by simp [bN, h]⟩

set_option maxHeartbeats 4000000 in
theorem order_walk (a b c : Int) (w : World) :
    Calls Tryd.prog 7 #[.int .i64 a, .int .i64 b, .int .i64 c] w fun e w' => e = .returned (.bool true) ∧ Below w.heap.size w w' := by
  go_enter Tryd.func7, Tryd.ntmps7
  go_wp2_with fail
  refine (shown_any _).mono ?_
  rintro e w0 ⟨rfl, B0⟩
  go_wp2_with fail
  refine (int_any _ _).mono ?_
  rintro e w1 ⟨rfl, hb⟩
  have B1 := keep_below B0 hb
  clear hb B0
  go_wp2_with fail
  refine (int_any _ _).mono ?_
  rintro e w2 ⟨rfl, hb⟩
  have B2 := up_below hb B1
  obtain ⟨d10, d11, d12⟩ := new_cell hb
  have y1 : w1.heap.size < w2.heap.size := up_size hb (Nat.le_refl _)
  clear hb B1
  go_wp2_with fail
  refine (int_any _ _).mono ?_
  rintro e w3 ⟨rfl, hb⟩
  have B3 := up_below hb B2
  obtain ⟨d20, d21, d22⟩ := new_cell hb
  have y2 : w2.heap.size < w3.heap.size := up_size hb (Nat.le_refl _)
  replace d10 := up_cell hb y1 d10
  replace d11 := up_cell hb y1 d11
  replace d12 := up_cell hb y1 d12
  replace y1 := up_size hb (Nat.le_of_lt y1)
  clear hb B2
  go_wp2_with fail
  refine (bin_lss _ _ _).mono ?_
  rintro e w4 ⟨rfl, hb⟩
  have B4 := up_below hb B3
  obtain ⟨d30, d31, d32⟩ := new_cell hb
  have y3 : w3.heap.size < w4.heap.size := up_size hb (Nat.le_refl _)
  replace d10 := up_cell hb y1 d10
  replace d11 := up_cell hb y1 d11
  replace d12 := up_cell hb y1 d12
  replace y1 := up_size hb (Nat.le_of_lt y1)
  replace d20 := up_cell hb y2 d20
  replace d21 := up_cell hb y2 d21
  replace d22 := up_cell hb y2 d22
  replace y2 := up_size hb (Nat.le_of_lt y2)
  clear hb B3
  go_wp2_with fail
  refine (bin_lss _ _ _).mono ?_
  rintro e w5 ⟨rfl, hb⟩
  have B5 := up_below hb B4
  obtain ⟨d40, d41, d42⟩ := new_cell hb
  have y4 : w4.heap.size < w5.heap.size := up_size hb (Nat.le_refl _)
  replace d10 := up_cell hb y1 d10
  replace d11 := up_cell hb y1 d11
  replace d12 := up_cell hb y1 d12
  replace y1 := up_size hb (Nat.le_of_lt y1)
  replace d20 := up_cell hb y2 d20
  replace d21 := up_cell hb y2 d21
  replace d22 := up_cell hb y2 d22
  replace y2 := up_size hb (Nat.le_of_lt y2)
  replace d30 := up_cell hb y3 d30
  replace d31 := up_cell hb y3 d31
  replace d32 := up_cell hb y3 d32
  replace y3 := up_size hb (Nat.le_of_lt y3)
  clear hb B4
  go_wp2_with fail
  refine (bin_eq _ _ _).mono ?_
  rintro e w6 ⟨rfl, hb⟩
  have B6 := up_below hb B5
  obtain ⟨d50, d51, d52⟩ := new_cell hb
  have y5 : w5.heap.size < w6.heap.size := up_size hb (Nat.le_refl _)
  replace d10 := up_cell hb y1 d10
  replace d11 := up_cell hb y1 d11
  replace d12 := up_cell hb y1 d12
  replace y1 := up_size hb (Nat.le_of_lt y1)
  replace d20 := up_cell hb y2 d20
  replace d21 := up_cell hb y2 d21
  replace d22 := up_cell hb y2 d22
  replace y2 := up_size hb (Nat.le_of_lt y2)
  replace d30 := up_cell hb y3 d30
  replace d31 := up_cell hb y3 d31
  replace d32 := up_cell hb y3 d32
  replace y3 := up_size hb (Nat.le_of_lt y3)
  replace d40 := up_cell hb y4 d40
  replace d41 := up_cell hb y4 d41
  replace d42 := up_cell hb y4 d42
  replace y4 := up_size hb (Nat.le_of_lt y4)
  clear hb B5
  go_wp2_with fail
  refine (bin_eq _ _ _).mono ?_
  rintro e w7 ⟨rfl, hb⟩
  have B7 := up_below hb B6
  obtain ⟨d60, d61, d62⟩ := new_cell hb
  have y6 : w6.heap.size < w7.heap.size := up_size hb (Nat.le_refl _)
  replace d10 := up_cell hb y1 d10
  replace d11 := up_cell hb y1 d11
  replace d12 := up_cell hb y1 d12
  replace y1 := up_size hb (Nat.le_of_lt y1)
  replace d20 := up_cell hb y2 d20
  replace d21 := up_cell hb y2 d21
  replace d22 := up_cell hb y2 d22
  replace y2 := up_size hb (Nat.le_of_lt y2)
  replace d30 := up_cell hb y3 d30
  replace d31 := up_cell hb y3 d31
  replace d32 := up_cell hb y3 d32
  replace y3 := up_size hb (Nat.le_of_lt y3)
  replace d40 := up_cell hb y4 d40
  replace d41 := up_cell hb y4 d41
  replace d42 := up_cell hb y4 d42
  replace y4 := up_size hb (Nat.le_of_lt y4)
  replace d50 := up_cell hb y5 d50
  replace d51 := up_cell hb y5 d51
  replace d52 := up_cell hb y5 d52
  replace y5 := up_size hb (Nat.le_of_lt y5)
  clear hb B6
  go_wp2_with fail
  refine (bin_lss _ _ _).mono ?_
  rintro e w8 ⟨rfl, hb⟩
  have B8 := up_below hb B7
  obtain ⟨d70, d71, d72⟩ := new_cell hb
  have y7 : w7.heap.size < w8.heap.size := up_size hb (Nat.le_refl _)
  replace d10 := up_cell hb y1 d10
  replace d11 := up_cell hb y1 d11
  replace d12 := up_cell hb y1 d12
  replace y1 := up_size hb (Nat.le_of_lt y1)
  replace d20 := up_cell hb y2 d20
  replace d21 := up_cell hb y2 d21
  replace d22 := up_cell hb y2 d22
  replace y2 := up_size hb (Nat.le_of_lt y2)
  replace d30 := up_cell hb y3 d30
  replace d31 := up_cell hb y3 d31
  replace d32 := up_cell hb y3 d32
  replace y3 := up_size hb (Nat.le_of_lt y3)
  replace d40 := up_cell hb y4 d40
  replace d41 := up_cell hb y4 d41
  replace d42 := up_cell hb y4 d42
  replace y4 := up_size hb (Nat.le_of_lt y4)
  replace d50 := up_cell hb y5 d50
  replace d51 := up_cell hb y5 d51
  replace d52 := up_cell hb y5 d52
  replace y5 := up_size hb (Nat.le_of_lt y5)
  replace d60 := up_cell hb y6 d60
  replace d61 := up_cell hb y6 d61
  replace d62 := up_cell hb y6 d62
  replace y6 := up_size hb (Nat.le_of_lt y6)
  clear hb B7
  go_wp2_with fail
  refine (bin_lss _ _ _).mono ?_
  rintro e w9 ⟨rfl, hb⟩
  have B9 := up_below hb B8
  obtain ⟨d80, d81, d82⟩ := new_cell hb
  have y8 : w8.heap.size < w9.heap.size := up_size hb (Nat.le_refl _)
  replace d10 := up_cell hb y1 d10
  replace d11 := up_cell hb y1 d11
  replace d12 := up_cell hb y1 d12
  replace y1 := up_size hb (Nat.le_of_lt y1)
  replace d20 := up_cell hb y2 d20
  replace d21 := up_cell hb y2 d21
  replace d22 := up_cell hb y2 d22
  replace y2 := up_size hb (Nat.le_of_lt y2)
  replace d30 := up_cell hb y3 d30
  replace d31 := up_cell hb y3 d31
  replace d32 := up_cell hb y3 d32
  replace y3 := up_size hb (Nat.le_of_lt y3)
  replace d40 := up_cell hb y4 d40
  replace d41 := up_cell hb y4 d41
  replace d42 := up_cell hb y4 d42
  replace y4 := up_size hb (Nat.le_of_lt y4)
  replace d50 := up_cell hb y5 d50
  replace d51 := up_cell hb y5 d51
  replace d52 := up_cell hb y5 d52
  replace y5 := up_size hb (Nat.le_of_lt y5)
  replace d60 := up_cell hb y6 d60
  replace d61 := up_cell hb y6 d61
  replace d62 := up_cell hb y6 d62
  replace y6 := up_size hb (Nat.le_of_lt y6)
  replace d70 := up_cell hb y7 d70
  replace d71 := up_cell hb y7 d71
  replace d72 := up_cell hb y7 d72
  replace y7 := up_size hb (Nat.le_of_lt y7)
  clear hb B8
  have q1 := bN_cases (a < b)
  have q2 := bN_cases (b < a)
  have q3 := bN_cases (a = b)
  have q4 := bN_cases (b = a)
  have q5 := bN_cases (b < c)
  have q6 := bN_cases (a < c)
  rcases q1 with ⟨h1, e1⟩ | ⟨h1, e1⟩ <;> rcases q2 with ⟨h2, e2⟩ | ⟨h2, e2⟩ <;> rcases q3 with ⟨h3, e3⟩ | ⟨h3, e3⟩ <;> rcases q4 with ⟨h4, e4⟩ | ⟨h4, e4⟩ <;> rcases q5 with ⟨h5, e5⟩ | ⟨h5, e5⟩ <;> rcases q6 with ⟨h6, e6⟩ | ⟨h6, e6⟩ <;> first
    | (exfalso; omega)
    | (clear h1 h2 h3 h4 h5 h6
       rw [e1] at d41
       rw [e2] at d51
       rw [e3] at d61
       rw [e4] at d71
       rw [e5] at d81
       rw [e6]
       clear e1 e2 e3 e4 e5 e6
       go_wp2
       go_ret
       exact ⟨rfl, B9.alloc B9.size _⟩)
end Go.Proofs.YtpighdioomjnmaaDoor.order
