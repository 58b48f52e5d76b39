/-
  Layer 5: the walk of ValueDivides. Written by an AI agent.
-/
import Derived.Test.YtpighdioomjnmaaDoorValB
import Derived.Deep.DeepCutAuto
import Derived.Deep.RegionWith
import Derived.OpenShut
namespace Go.Proofs.YtpighdioomjnmaaDoor.divides
open Go.RowKit

theorem up_cell {w0 w1 : World} {o : Obj} {b k : Nat} {v : Value} (hb : Below (w0.alloc o).heap.size (w0.alloc o) w1) (hlt : b < w0.heap.size) (hc : w0.cell? ⟨b, k, none⟩ = some v) : w1.cell? ⟨b, k, none⟩ = some v :=
  (hb.cell (p := ⟨b, k, none⟩) (by simp; omega)).trans ((((Below.refl w0.heap.size w0).alloc (Nat.le_refl _) o).cell (p := ⟨b, k, none⟩) hlt).trans hc)
theorem new_cell {w0 w1 : World} {c0 c1 c2 : Value} {t : TypeId} (hb : Below (w0.alloc (.cells #[c0, c1, c2] t)).heap.size (w0.alloc (.cells #[c0, c1, c2] t)) w1) :
    w1.cell? ⟨w0.heap.size, 0, none⟩ = some c0 ∧ w1.cell? ⟨w0.heap.size, 1, none⟩ = some c1 ∧ w1.cell? ⟨w0.heap.size, 2, none⟩ = some c2 :=
  ⟨(hb.cell (p := ⟨w0.heap.size, 0, none⟩) (by simp)).trans (by simp), (hb.cell (p := ⟨w0.heap.size, 1, none⟩) (by simp)).trans (by simp), (hb.cell (p := ⟨w0.heap.size, 2, none⟩) (by simp)).trans (by simp)⟩
theorem up_size {w0 w1 : World} {o : Obj} {b : Nat} (hb : Below (w0.alloc o).heap.size (w0.alloc o) w1) (hlt : b ≤ w0.heap.size) : b < w1.heap.size := by
  have := hb.size
  simp at this
  omega
theorem up_below {W w0 w1 : World} {o : Obj} (hb : Below (w0.alloc o).heap.size (w0.alloc o) w1) (h : Below W.heap.size W w0) : Below W.heap.size W w1 :=
  (h.alloc h.size o).trans (hb.mono (by have := h.size; simp; omega))
theorem at_alloc {w0 : World} {o : Obj} {b k : Nat} {v : Value} (hlt : b < w0.heap.size) (hc : w0.cell? ⟨b, k, none⟩ = some v) : (w0.alloc o).cell? ⟨b, k, none⟩ = some v :=
  (((Below.refl w0.heap.size w0).alloc (Nat.le_refl _) o).cell (p := ⟨b, k, none⟩) hlt).trans hc
theorem at_new {w0 : World} {c0 c1 c2 : Value} {t : TypeId} :
    (w0.alloc (.cells #[c0, c1, c2] t)).cell? ⟨w0.heap.size, 0, none⟩ = some c0 ∧ (w0.alloc (.cells #[c0, c1, c2] t)).cell? ⟨w0.heap.size, 1, none⟩ = some c1 ∧ (w0.alloc (.cells #[c0, c1, c2] t)).cell? ⟨w0.heap.size, 2, none⟩ = some c2 :=
  ⟨by simp, by simp, by simp⟩

theorem kb_alloc {W w : World} {o : Obj} (h : Below W.heap.size W w) : Below W.heap.size W (w.alloc o) := h.alloc h.size o
theorem kb_setCell {W w : World} {p : Addr} {v : Value} (h : Below W.heap.size W w) (hp : W.heap.size ≤ p.block) : Below W.heap.size W (w.setCell p v) := h.setCell hp v

theorem sign_neg (n : Int) (w : World) :
    Calls Tryd.prog 23 #[.string { data := #[45] }, .agg #[.int .i64 1, .int .i64 n, .string { data := #[] }]] w fun e w' => e = .returned (.agg #[.int .i64 1, .int .i64 (wrap64 (-n)), .string { data := #[] }]) ∧ Below w.heap.size w w' := by
  go_enter Tryd.func23, Tryd.ntmps23
  go_wp2_with (go_at_call 15; refine (int_any _ _).mono ?_; rintro e w1 ⟨rfl, hb1⟩; obtain ⟨hc1, hf1⟩ := bcell hb1; have hz1 := hb1.size)
  exact bodyPost_ret (v := .agg #[.int .i64 1, .int .i64 (wrap64 (-n)), .string { data := #[] }]) (by simp [results, Tryd.results23, go_sem, hc1]) rfl ⟨rfl, ((((((Below.refl _ _).alloc (Nat.le_refl _) _).alloc (by simp) _).trans (hb1.mono (by simp <;> omega))).setCell (by simp <;> omega) _).setCell (by simp <;> omega) _).setCell (by simp <;> omega) _⟩
theorem sign_not1 (w : World) :
    Calls Tryd.prog 23 #[.string { data := #[33] }, .agg #[.int .i64 2, .int .i64 1, .string { data := #[] }]] w fun e w' => e = .returned (.agg #[.int .i64 2, .int .i64 0, .string { data := #[] }]) ∧ Below w.heap.size w w' := by
  go_enter Tryd.func23, Tryd.ntmps23
  go_wp2_with (go_at_call 17; refine (bool_any false _).mono ?_; rintro e w1 ⟨rfl, hb1⟩; obtain ⟨hc1, hf1⟩ := bcell hb1; have hz1 := hb1.size)
  exact bodyPost_ret (v := .agg #[.int .i64 2, .int .i64 0, .string { data := #[] }]) (by simp [results, Tryd.results23, go_sem, hc1, bN]) rfl ⟨rfl, ((((((Below.refl _ _).alloc (Nat.le_refl _) _).alloc (by simp) _).trans (hb1.mono (by simp <;> omega))).setCell (by simp <;> omega) _).setCell (by simp <;> omega) _).setCell (by simp <;> omega) _⟩
theorem sign_not0 (w : World) :
    Calls Tryd.prog 23 #[.string { data := #[33] }, .agg #[.int .i64 2, .int .i64 0, .string { data := #[] }]] w fun e w' => e = .returned (.agg #[.int .i64 2, .int .i64 1, .string { data := #[] }]) ∧ Below w.heap.size w w' := by
  go_enter Tryd.func23, Tryd.ntmps23
  go_wp2_with (go_at_call 17; refine (bool_any true _).mono ?_; rintro e w1 ⟨rfl, hb1⟩; obtain ⟨hc1, hf1⟩ := bcell hb1; have hz1 := hb1.size)
  exact bodyPost_ret (v := .agg #[.int .i64 2, .int .i64 1, .string { data := #[] }]) (by simp [results, Tryd.results23, go_sem, hc1, bN]) rfl ⟨rfl, ((((((Below.refl _ _).alloc (Nat.le_refl _) _).alloc (by simp) _).trans (hb1.mono (by simp <;> omega))).setCell (by simp <;> omega) _).setCell (by simp <;> omega) _).setCell (by simp <;> omega) _⟩

theorem num_quo0 (a : Int) (w : World) :
    Calls Tryd.prog 31 #[.string { data := #[47] }, .int .i64 a, .int .i64 0] w fun e w' => e = .returned (.tuple #[.agg #[.int .i64 0, .int .i64 0, .string { data := #[] }], .int .i64 1]) ∧ Below w.heap.size w w' := by
  go_enter Tryd.func31, Tryd.ntmps31
  go_wp2
  exact bodyPost_ret (v := .tuple #[.agg #[.int .i64 0, .int .i64 0, .string { data := #[] }], .int .i64 1]) (by simp [results, Tryd.results31, go_sem]) rfl ⟨rfl, (Below.refl _ _).alloc (Nat.le_refl _) _⟩
theorem bin_quo0 (a : Int) (w : World) :
    Calls Tryd.prog 13 #[.string { data := #[47] }, .agg #[.int .i64 1, .int .i64 a, .string { data := #[] }], .agg #[.int .i64 1, .int .i64 0, .string { data := #[] }]] w fun e w' => e = .returned (.tuple #[.agg #[.int .i64 0, .int .i64 0, .string { data := #[] }], .int .i64 1]) ∧ Below w.heap.size w w' := by
  go_enter Tryd.func13, Tryd.ntmps13
  go_wp2_with (go_at_call 31; refine (num_quo0 _ _).mono ?_; rintro e w1 ⟨rfl, hb1⟩; obtain ⟨hc1, hf1⟩ := bcell hb1; have hz1 := hb1.size)
  exact bodyPost_ret (v := .tuple #[.agg #[.int .i64 0, .int .i64 0, .string { data := #[] }], .int .i64 1]) (by simp [results, Tryd.results13, go_sem, hc1]) rfl ⟨rfl, (((((((Below.refl _ _).alloc (Nat.le_refl _) _).alloc (by simp) _).alloc (by simp <;> omega) _).trans (hb1.mono (by simp <;> omega))).setCell (by simp <;> omega) _).setCell (by simp <;> omega) _).setCell (by simp <;> omega) _⟩

theorem num_rem0 (a : Int) (w : World) :
    Calls Tryd.prog 31 #[.string { data := #[37] }, .int .i64 a, .int .i64 0] w fun e w' => e = .returned (.tuple #[.agg #[.int .i64 0, .int .i64 0, .string { data := #[] }], .int .i64 1]) ∧ Below w.heap.size w w' := by
  go_enter Tryd.func31, Tryd.ntmps31
  go_wp2
  exact bodyPost_ret (v := .tuple #[.agg #[.int .i64 0, .int .i64 0, .string { data := #[] }], .int .i64 1]) (by simp [results, Tryd.results31, go_sem]) rfl ⟨rfl, (Below.refl _ _).alloc (Nat.le_refl _) _⟩
theorem bin_rem0 (a : Int) (w : World) :
    Calls Tryd.prog 13 #[.string { data := #[37] }, .agg #[.int .i64 1, .int .i64 a, .string { data := #[] }], .agg #[.int .i64 1, .int .i64 0, .string { data := #[] }]] w fun e w' => e = .returned (.tuple #[.agg #[.int .i64 0, .int .i64 0, .string { data := #[] }], .int .i64 1]) ∧ Below w.heap.size w w' := by
  go_enter Tryd.func13, Tryd.ntmps13
  go_wp2_with (go_at_call 31; refine (num_rem0 _ _).mono ?_; rintro e w1 ⟨rfl, hb1⟩; obtain ⟨hc1, hf1⟩ := bcell hb1; have hz1 := hb1.size)
  exact bodyPost_ret (v := .tuple #[.agg #[.int .i64 0, .int .i64 0, .string { data := #[] }], .int .i64 1]) (by simp [results, Tryd.results13, go_sem, hc1]) rfl ⟨rfl, (((((((Below.refl _ _).alloc (Nat.le_refl _) _).alloc (by simp) _).alloc (by simp <;> omega) _).trans (hb1.mono (by simp <;> omega))).setCell (by simp <;> omega) _).setCell (by simp <;> omega) _).setCell (by simp <;> omega) _⟩

/-- A number of 64 bits. -/
def Rng (a : Int) : Prop := -9223372036854775808 ≤ a ∧ a ≤ 9223372036854775807
theorem w64_in {a : Int} (h : Rng a) : wrap64 a = a := by unfold wrap64; unfold Rng at h; omega
theorem w64_mod (n : Int) : ∃ k : Int, wrap64 n = n + 18446744073709551616 * k := by
  refine ⟨-((n + 9223372036854775808) / 18446744073709551616), ?_⟩
  unfold wrap64
  omega
theorem w64_shift (n k : Int) : wrap64 (n + 18446744073709551616 * k) = wrap64 n := by
  unfold wrap64
  omega
theorem e_back (a b : Int) (h : Rng a) : wrap64 (wrap64 (a + b) - b) = a := by unfold wrap64; unfold Rng at h; omega
theorem e_zero : wrap64 0 = 0 := by unfold wrap64; omega
theorem e_neg (a : Int) : wrap64 (a + wrap64 (-a)) = 0 := by unfold wrap64; omega
theorem e_all (a b : Int) (h : Rng a) : wrap64 (wrap64 (wrap64 (a.tdiv b) * b) + a.tmod b) = a := by
  obtain ⟨k, hk⟩ := w64_mod (a.tdiv b)
  obtain ⟨l, hl⟩ := w64_mod ((a.tdiv b + 18446744073709551616 * k) * b)
  have e := Int.mul_tdiv_add_tmod a b
  rw [hk, hl]
  have e1 : (a.tdiv b + 18446744073709551616 * k) * b + 18446744073709551616 * l + a.tmod b = a + 18446744073709551616 * (k * b + l) := by
    rw [Int.add_mul, Int.mul_add, Int.mul_assoc, Int.mul_comm (a.tdiv b) b]
    omega
  rw [e1, w64_shift, w64_in h]
theorem e_cases (a b : Int) : (a.tmod b = 0 ∧ True ∧ True) ∨ (¬ a.tmod b = 0 ∧ a < 0 ∧ a.tmod b < 0) ∨ (¬ a.tmod b = 0 ∧ ¬ a < 0 ∧ ¬ a.tmod b < 0) := by
  by_cases h0 : a.tmod b = 0
  · exact .inl ⟨h0, trivial, trivial⟩
  · by_cases hn : a < 0
    · refine .inr (.inl ⟨h0, hn, ?_⟩)
      have h1 := Int.tmod_nonneg (a := -a) b (by omega)
      rw [Int.neg_tmod] at h1
      omega
    · refine .inr (.inr ⟨h0, hn, ?_⟩)
      have := Int.tmod_nonneg (a := a) b (by omega)
      omega

set_option maxRecDepth 100000 in
set_option maxHeartbeats 16000000 in
theorem divides_walk (a b : Int) (ha : Rng a) (w : World) :
    Calls Tryd.prog 5 #[.int .i64 a, .int .i64 b] w fun e w' => e = .returned (.bool true) ∧ Below w.heap.size w w' := by
  go_enter Tryd.func5, Tryd.ntmps5
  go_wp2_with fail
  refine (shown_any _).mono ?_
  rintro e x1 ⟨rfl, B⟩
  go_wp2_with fail
  refine (int_any _ _).mono ?_
  rintro e x2 ⟨rfl, hb⟩
  replace B := keep_below B hb
  clear hb
  go_wp2_with fail
  refine (int_any _ _).mono ?_
  rintro e x3 ⟨rfl, hb⟩
  obtain ⟨d10, d11, d12⟩ := new_cell hb
  have y1 : x2.heap.size < x3.heap.size := up_size hb (Nat.le_refl _)
  replace B := up_below hb B
  clear hb
  go_wp2_with fail
  refine (bin_add _ _ _).mono ?_
  rintro e x4 ⟨rfl, hb⟩
  replace d10 := up_cell hb y1 d10
  replace d11 := up_cell hb y1 d11
  replace d12 := up_cell hb y1 d12
  replace y1 := up_size hb (Nat.le_of_lt y1)
  obtain ⟨d20, d21, d22⟩ := new_cell hb
  have y2 : x3.heap.size < x4.heap.size := up_size hb (Nat.le_refl _)
  replace B := up_below hb B
  clear hb
  go_wp2_with fail
  refine (bin_sub _ _ _).mono ?_
  rintro e x5 ⟨rfl, hb⟩
  replace d10 := up_cell hb y1 d10
  replace d11 := up_cell hb y1 d11
  replace d12 := up_cell hb y1 d12
  replace y1 := up_size hb (Nat.le_of_lt y1)
  replace d20 := up_cell hb y2 d20
  replace d21 := up_cell hb y2 d21
  replace d22 := up_cell hb y2 d22
  replace y2 := up_size hb (Nat.le_of_lt y2)
  obtain ⟨d30, d31, d32⟩ := new_cell hb
  have y3 : x4.heap.size < x5.heap.size := up_size hb (Nat.le_refl _)
  replace B := up_below hb B
  clear hb
  go_wp2_with fail
  refine (bin_sub _ _ _).mono ?_
  rintro e x6 ⟨rfl, hb⟩
  replace d10 := up_cell hb y1 d10
  replace d11 := up_cell hb y1 d11
  replace d12 := up_cell hb y1 d12
  replace y1 := up_size hb (Nat.le_of_lt y1)
  replace d20 := up_cell hb y2 d20
  replace d21 := up_cell hb y2 d21
  replace d22 := up_cell hb y2 d22
  replace y2 := up_size hb (Nat.le_of_lt y2)
  replace d30 := up_cell hb y3 d30
  replace d31 := up_cell hb y3 d31
  replace d32 := up_cell hb y3 d32
  replace y3 := up_size hb (Nat.le_of_lt y3)
  obtain ⟨d40, d41, d42⟩ := new_cell hb
  have y4 : x5.heap.size < x6.heap.size := up_size hb (Nat.le_refl _)
  replace B := up_below hb B
  clear hb
  go_upto_region 7 with fail
  obtain ⟨W6, hW⟩ : ∃ W : World, W = x6.alloc (.cells #[.int .i64 1, .int .i64 (wrap64 0), .string { data := #[] }] 23) := ⟨_, rfl⟩
  replace d10 : W6.cell? ⟨x2.heap.size, 0, none⟩ = _ := (congrArg (fun W : World => W.cell? ⟨x2.heap.size, 0, none⟩) hW).trans (at_alloc y1 d10)
  replace d11 : W6.cell? ⟨x2.heap.size, 1, none⟩ = _ := (congrArg (fun W : World => W.cell? ⟨x2.heap.size, 1, none⟩) hW).trans (at_alloc y1 d11)
  replace d12 : W6.cell? ⟨x2.heap.size, 2, none⟩ = _ := (congrArg (fun W : World => W.cell? ⟨x2.heap.size, 2, none⟩) hW).trans (at_alloc y1 d12)
  replace y1 : x2.heap.size < W6.heap.size := by rw [hW]; simp; omega
  replace d20 : W6.cell? ⟨x3.heap.size, 0, none⟩ = _ := (congrArg (fun W : World => W.cell? ⟨x3.heap.size, 0, none⟩) hW).trans (at_alloc y2 d20)
  replace d21 : W6.cell? ⟨x3.heap.size, 1, none⟩ = _ := (congrArg (fun W : World => W.cell? ⟨x3.heap.size, 1, none⟩) hW).trans (at_alloc y2 d21)
  replace d22 : W6.cell? ⟨x3.heap.size, 2, none⟩ = _ := (congrArg (fun W : World => W.cell? ⟨x3.heap.size, 2, none⟩) hW).trans (at_alloc y2 d22)
  replace y2 : x3.heap.size < W6.heap.size := by rw [hW]; simp; omega
  replace d30 : W6.cell? ⟨x4.heap.size, 0, none⟩ = _ := (congrArg (fun W : World => W.cell? ⟨x4.heap.size, 0, none⟩) hW).trans (at_alloc y3 d30)
  replace d31 : W6.cell? ⟨x4.heap.size, 1, none⟩ = _ := (congrArg (fun W : World => W.cell? ⟨x4.heap.size, 1, none⟩) hW).trans (at_alloc y3 d31)
  replace d32 : W6.cell? ⟨x4.heap.size, 2, none⟩ = _ := (congrArg (fun W : World => W.cell? ⟨x4.heap.size, 2, none⟩) hW).trans (at_alloc y3 d32)
  replace y3 : x4.heap.size < W6.heap.size := by rw [hW]; simp; omega
  replace d40 : W6.cell? ⟨x5.heap.size, 0, none⟩ = _ := (congrArg (fun W : World => W.cell? ⟨x5.heap.size, 0, none⟩) hW).trans (at_alloc y4 d40)
  replace d41 : W6.cell? ⟨x5.heap.size, 1, none⟩ = _ := (congrArg (fun W : World => W.cell? ⟨x5.heap.size, 1, none⟩) hW).trans (at_alloc y4 d41)
  replace d42 : W6.cell? ⟨x5.heap.size, 2, none⟩ = _ := (congrArg (fun W : World => W.cell? ⟨x5.heap.size, 2, none⟩) hW).trans (at_alloc y4 d42)
  replace y4 : x5.heap.size < W6.heap.size := by rw [hW]; simp; omega
  obtain ⟨d50, d51, d52⟩ : W6.cell? ⟨x6.heap.size, 0, none⟩ = some (.int .i64 1) ∧ W6.cell? ⟨x6.heap.size, 1, none⟩ = some (.int .i64 (wrap64 0)) ∧ W6.cell? ⟨x6.heap.size, 2, none⟩ = some (.string { data := #[] }) := by rw [hW]; exact at_new
  have y5 : x6.heap.size < W6.heap.size := by rw [hW]; simp
  replace B : Below w.heap.size w W6 := by rw [hW]; exact B.alloc B.size _
  rw [← hW]
  clear hW
  go_cut [14, 15] (fun s14 s15 wx => ∃ g : Nat, s14 = .pointer (some ⟨g, 0, none⟩) ∧ s15 = .int .i64 0 ∧ wx.cell? ⟨g, 0, none⟩ = some (.int .i64 1) ∧ wx.cell? ⟨g, 1, none⟩ = some (.int .i64 (wrap64 (a + wrap64 (-a)))) ∧ wx.cell? ⟨g, 2, none⟩ = some (.string { data := #[] }) ∧ g < wx.heap.size ∧ Below W6.heap.size W6 wx)
  case first =>
    have mk : ∀ w' : World, Below W6.heap.size W6 w' → (w'.cell? ⟨x2.heap.size, 0, none⟩ = some (.int .i64 1) ∧ w'.cell? ⟨x2.heap.size, 1, none⟩ = some (.int .i64 (a)) ∧ w'.cell? ⟨x2.heap.size, 2, none⟩ = some (.string { data := #[] }) ∧ Below W6.heap.size W6 w') := fun w' h => ⟨keep_cell h y1 d10, keep_cell h y1 d11, keep_cell h y1 d12, h⟩
    have MK := Lib.hid mk
    clear mk
    go_region_held3 (fun w' => w'.cell? ⟨x2.heap.size, 0, none⟩ = some (.int .i64 1) ∧ w'.cell? ⟨x2.heap.size, 1, none⟩ = some (.int .i64 (a)) ∧ w'.cell? ⟨x2.heap.size, 2, none⟩ = some (.string { data := #[] }) ∧ Below W6.heap.size W6 w')
      (((try go_split_ands); refine MK.out _ ?_; repeat (first | assumption | exact Below.refl _ _ | apply Below.drew | apply kb_alloc | (refine kb_setCell ?_ (by first | exact Below.size (by assumption) | (simp; done) | (simp <;> omega))) | refine keep_below ?_ hb4)))
      (first | (go_at_call 23; refine (sign_neg _ _).mono ?_; rintro e w4 ⟨rfl, hb4⟩; obtain ⟨hc4, hf4⟩ := bcell hb4; have hz4 := hb4.size; (try simp at hz4); (try replace hz4 := Nat.lt_of_succ_le hz4); have hS4 : Below W6.heap.size W6 w4 := by (((try go_split_ands); repeat (first | assumption | exact Below.refl _ _ | apply Below.drew | apply kb_alloc | refine keep_below ?_ hb4)))) | (go_at_call 13; refine (bin_add _ _ _).mono ?_; rintro e w4 ⟨rfl, hb4⟩; obtain ⟨hc4, hf4⟩ := bcell hb4; have hz4 := hb4.size; (try simp at hz4); (try replace hz4 := Nat.lt_of_succ_le hz4); have hS4 : Below W6.heap.size W6 w4 := by (((try go_split_ands); repeat (first | assumption | exact Below.refl _ _ | apply Below.drew | apply kb_alloc | refine keep_below ?_ hb4)))))
    all_goals (go_wp2_with fail; go_meet; (refine ⟨_, rfl, rfl, ?_, ?_, ?_, ?_, ?_⟩ <;> first | (go_simp; done) | (simp; omega) | ((try go_split_ands); repeat (first | assumption | exact Below.refl _ _ | apply kb_alloc | (refine kb_setCell ?_ (by first | exact Nat.le_refl _ | exact Below.size (by assumption)))))))
  case rest =>
    obtain ⟨g, rfl, rfl, d60, d61, d62, y6, hb⟩ := hcut
    have hb0 := hb
    replace d10 := keep_cell hb y1 d10
    replace d11 := keep_cell hb y1 d11
    replace d12 := keep_cell hb y1 d12
    replace y1 := Nat.lt_of_lt_of_le y1 hb.size
    replace d20 := keep_cell hb y2 d20
    replace d21 := keep_cell hb y2 d21
    replace d22 := keep_cell hb y2 d22
    replace y2 := Nat.lt_of_lt_of_le y2 hb.size
    replace d30 := keep_cell hb y3 d30
    replace d31 := keep_cell hb y3 d31
    replace d32 := keep_cell hb y3 d32
    replace y3 := Nat.lt_of_lt_of_le y3 hb.size
    replace d40 := keep_cell hb y4 d40
    replace d41 := keep_cell hb y4 d41
    replace d42 := keep_cell hb y4 d42
    replace y4 := Nat.lt_of_lt_of_le y4 hb.size
    replace d50 := keep_cell hb y5 d50
    replace d51 := keep_cell hb y5 d51
    replace d52 := keep_cell hb y5 d52
    replace y5 := Nat.lt_of_lt_of_le y5 hb.size
    replace B := keep_below B hb
    clear hb hb0
    rw [e_back a b ha] at d41
    rw [e_zero] at d51
    rw [e_neg] at d61
    go_wp2_with fail
    have mk : ∀ w' : World, Below wc.heap.size wc w' → (w'.cell? ⟨x2.heap.size, 0, none⟩ = some (.int .i64 1) ∧ w'.cell? ⟨x2.heap.size, 1, none⟩ = some (.int .i64 (a)) ∧ w'.cell? ⟨x2.heap.size, 2, none⟩ = some (.string { data := #[] }) ∧ w'.cell? ⟨x5.heap.size, 0, none⟩ = some (.int .i64 1) ∧ w'.cell? ⟨x5.heap.size, 1, none⟩ = some (.int .i64 (a)) ∧ w'.cell? ⟨x5.heap.size, 2, none⟩ = some (.string { data := #[] }) ∧ w'.cell? ⟨x6.heap.size, 0, none⟩ = some (.int .i64 1) ∧ w'.cell? ⟨x6.heap.size, 1, none⟩ = some (.int .i64 (0)) ∧ w'.cell? ⟨x6.heap.size, 2, none⟩ = some (.string { data := #[] }) ∧ w'.cell? ⟨g, 0, none⟩ = some (.int .i64 1) ∧ w'.cell? ⟨g, 1, none⟩ = some (.int .i64 (0)) ∧ w'.cell? ⟨g, 2, none⟩ = some (.string { data := #[] }) ∧ Below wc.heap.size wc w') := fun w' h => ⟨keep_cell h y1 d10, keep_cell h y1 d11, keep_cell h y1 d12, keep_cell h y4 d40, keep_cell h y4 d41, keep_cell h y4 d42, keep_cell h y5 d50, keep_cell h y5 d51, keep_cell h y5 d52, keep_cell h y6 d60, keep_cell h y6 d61, keep_cell h y6 d62, h⟩
    have MK := Lib.hid mk
    clear mk
    go_region_held3 (fun w' => w'.cell? ⟨x2.heap.size, 0, none⟩ = some (.int .i64 1) ∧ w'.cell? ⟨x2.heap.size, 1, none⟩ = some (.int .i64 (a)) ∧ w'.cell? ⟨x2.heap.size, 2, none⟩ = some (.string { data := #[] }) ∧ w'.cell? ⟨x5.heap.size, 0, none⟩ = some (.int .i64 1) ∧ w'.cell? ⟨x5.heap.size, 1, none⟩ = some (.int .i64 (a)) ∧ w'.cell? ⟨x5.heap.size, 2, none⟩ = some (.string { data := #[] }) ∧ w'.cell? ⟨x6.heap.size, 0, none⟩ = some (.int .i64 1) ∧ w'.cell? ⟨x6.heap.size, 1, none⟩ = some (.int .i64 (0)) ∧ w'.cell? ⟨x6.heap.size, 2, none⟩ = some (.string { data := #[] }) ∧ w'.cell? ⟨g, 0, none⟩ = some (.int .i64 1) ∧ w'.cell? ⟨g, 1, none⟩ = some (.int .i64 (0)) ∧ w'.cell? ⟨g, 2, none⟩ = some (.string { data := #[] }) ∧ Below wc.heap.size wc w')
      (((try go_split_ands); refine MK.out _ ?_; repeat (first | assumption | exact Below.refl _ _ | apply Below.drew | apply kb_alloc | (refine kb_setCell ?_ (by first | exact Below.size (by assumption) | (simp; done) | (simp <;> omega))) | refine keep_below ?_ hb4)))
      (first | (go_at_call 15; refine (int_any _ _).mono ?_; rintro e w4 ⟨rfl, hb4⟩))
    have hb : Below wc.heap.size wc w4 := (by assumption : w4.cell? ⟨x2.heap.size, 0, none⟩ = some (.int .i64 1) ∧ w4.cell? ⟨x2.heap.size, 1, none⟩ = some (.int .i64 (a)) ∧ w4.cell? ⟨x2.heap.size, 2, none⟩ = some (.string { data := #[] }) ∧ w4.cell? ⟨x5.heap.size, 0, none⟩ = some (.int .i64 1) ∧ w4.cell? ⟨x5.heap.size, 1, none⟩ = some (.int .i64 (a)) ∧ w4.cell? ⟨x5.heap.size, 2, none⟩ = some (.string { data := #[] }) ∧ w4.cell? ⟨x6.heap.size, 0, none⟩ = some (.int .i64 1) ∧ w4.cell? ⟨x6.heap.size, 1, none⟩ = some (.int .i64 (0)) ∧ w4.cell? ⟨x6.heap.size, 2, none⟩ = some (.string { data := #[] }) ∧ w4.cell? ⟨g, 0, none⟩ = some (.int .i64 1) ∧ w4.cell? ⟨g, 1, none⟩ = some (.int .i64 (0)) ∧ w4.cell? ⟨g, 2, none⟩ = some (.string { data := #[] }) ∧ Below wc.heap.size wc w4).2.2.2.2.2.2.2.2.2.2.2.2
    replace d10 := keep_cell hb y1 d10
    replace d11 := keep_cell hb y1 d11
    replace d12 := keep_cell hb y1 d12
    replace y1 := Nat.lt_of_lt_of_le y1 hb.size
    replace d20 := keep_cell hb y2 d20
    replace d21 := keep_cell hb y2 d21
    replace d22 := keep_cell hb y2 d22
    replace y2 := Nat.lt_of_lt_of_le y2 hb.size
    replace d30 := keep_cell hb y3 d30
    replace d31 := keep_cell hb y3 d31
    replace d32 := keep_cell hb y3 d32
    replace y3 := Nat.lt_of_lt_of_le y3 hb.size
    replace d40 := keep_cell hb y4 d40
    replace d41 := keep_cell hb y4 d41
    replace d42 := keep_cell hb y4 d42
    replace y4 := Nat.lt_of_lt_of_le y4 hb.size
    replace d50 := keep_cell hb y5 d50
    replace d51 := keep_cell hb y5 d51
    replace d52 := keep_cell hb y5 d52
    replace y5 := Nat.lt_of_lt_of_le y5 hb.size
    replace d60 := keep_cell hb y6 d60
    replace d61 := keep_cell hb y6 d61
    replace d62 := keep_cell hb y6 d62
    replace y6 := Nat.lt_of_lt_of_le y6 hb.size
    replace B := keep_below B hb
    clear hb
    clear MK
    have hb := Below.refl w4.heap.size w4
    obtain ⟨V, hV⟩ : ∃ V : World, V = w4 := ⟨_, rfl⟩
    subst hV
    clear hb
    by_cases hz : b = 0
    · subst hz
      go_wp2_with fail
      refine (bin_quo0 _ _).mono ?_
      rintro e x7 ⟨rfl, hb⟩
      replace d10 := keep_cell hb y1 d10
      replace d11 := keep_cell hb y1 d11
      replace d12 := keep_cell hb y1 d12
      replace y1 := Nat.lt_of_lt_of_le y1 hb.size
      replace d20 := keep_cell hb y2 d20
      replace d21 := keep_cell hb y2 d21
      replace d22 := keep_cell hb y2 d22
      replace y2 := Nat.lt_of_lt_of_le y2 hb.size
      replace d30 := keep_cell hb y3 d30
      replace d31 := keep_cell hb y3 d31
      replace d32 := keep_cell hb y3 d32
      replace y3 := Nat.lt_of_lt_of_le y3 hb.size
      replace d40 := keep_cell hb y4 d40
      replace d41 := keep_cell hb y4 d41
      replace d42 := keep_cell hb y4 d42
      replace y4 := Nat.lt_of_lt_of_le y4 hb.size
      replace d50 := keep_cell hb y5 d50
      replace d51 := keep_cell hb y5 d51
      replace d52 := keep_cell hb y5 d52
      replace y5 := Nat.lt_of_lt_of_le y5 hb.size
      replace d60 := keep_cell hb y6 d60
      replace d61 := keep_cell hb y6 d61
      replace d62 := keep_cell hb y6 d62
      replace y6 := Nat.lt_of_lt_of_le y6 hb.size
      replace B := keep_below B hb
      clear hb
      go_wp2_with fail
      refine (bin_rem0 _ _).mono ?_
      rintro e x8 ⟨rfl, hb⟩
      replace d10 := up_cell hb y1 d10
      replace d11 := up_cell hb y1 d11
      replace d12 := up_cell hb y1 d12
      replace y1 := up_size hb (Nat.le_of_lt y1)
      replace d20 := up_cell hb y2 d20
      replace d21 := up_cell hb y2 d21
      replace d22 := up_cell hb y2 d22
      replace y2 := up_size hb (Nat.le_of_lt y2)
      replace d30 := up_cell hb y3 d30
      replace d31 := up_cell hb y3 d31
      replace d32 := up_cell hb y3 d32
      replace y3 := up_size hb (Nat.le_of_lt y3)
      replace d40 := up_cell hb y4 d40
      replace d41 := up_cell hb y4 d41
      replace d42 := up_cell hb y4 d42
      replace y4 := up_size hb (Nat.le_of_lt y4)
      replace d50 := up_cell hb y5 d50
      replace d51 := up_cell hb y5 d51
      replace d52 := up_cell hb y5 d52
      replace y5 := up_size hb (Nat.le_of_lt y5)
      replace d60 := up_cell hb y6 d60
      replace d61 := up_cell hb y6 d61
      replace d62 := up_cell hb y6 d62
      replace y6 := up_size hb (Nat.le_of_lt y6)
      obtain ⟨d70, d71, d72⟩ := new_cell hb
      have y7 : x7.heap.size < x8.heap.size := up_size hb (Nat.le_refl _)
      replace B := up_below hb B
      clear hb
      go_wp2
      go_ret
      exact ⟨rfl, B.alloc B.size _⟩
    ·
      go_wp2_with fail
      refine (bin_quo _ _ hz _).mono ?_
      rintro e x7 ⟨rfl, hb⟩
      replace d10 := keep_cell hb y1 d10
      replace d11 := keep_cell hb y1 d11
      replace d12 := keep_cell hb y1 d12
      replace y1 := Nat.lt_of_lt_of_le y1 hb.size
      replace d20 := keep_cell hb y2 d20
      replace d21 := keep_cell hb y2 d21
      replace d22 := keep_cell hb y2 d22
      replace y2 := Nat.lt_of_lt_of_le y2 hb.size
      replace d30 := keep_cell hb y3 d30
      replace d31 := keep_cell hb y3 d31
      replace d32 := keep_cell hb y3 d32
      replace y3 := Nat.lt_of_lt_of_le y3 hb.size
      replace d40 := keep_cell hb y4 d40
      replace d41 := keep_cell hb y4 d41
      replace d42 := keep_cell hb y4 d42
      replace y4 := Nat.lt_of_lt_of_le y4 hb.size
      replace d50 := keep_cell hb y5 d50
      replace d51 := keep_cell hb y5 d51
      replace d52 := keep_cell hb y5 d52
      replace y5 := Nat.lt_of_lt_of_le y5 hb.size
      replace d60 := keep_cell hb y6 d60
      replace d61 := keep_cell hb y6 d61
      replace d62 := keep_cell hb y6 d62
      replace y6 := Nat.lt_of_lt_of_le y6 hb.size
      replace B := keep_below B hb
      clear hb
      go_wp2_with fail
      refine (bin_rem _ _ hz _).mono ?_
      rintro e x8 ⟨rfl, hb⟩
      replace d10 := up_cell hb y1 d10
      replace d11 := up_cell hb y1 d11
      replace d12 := up_cell hb y1 d12
      replace y1 := up_size hb (Nat.le_of_lt y1)
      replace d20 := up_cell hb y2 d20
      replace d21 := up_cell hb y2 d21
      replace d22 := up_cell hb y2 d22
      replace y2 := up_size hb (Nat.le_of_lt y2)
      replace d30 := up_cell hb y3 d30
      replace d31 := up_cell hb y3 d31
      replace d32 := up_cell hb y3 d32
      replace y3 := up_size hb (Nat.le_of_lt y3)
      replace d40 := up_cell hb y4 d40
      replace d41 := up_cell hb y4 d41
      replace d42 := up_cell hb y4 d42
      replace y4 := up_size hb (Nat.le_of_lt y4)
      replace d50 := up_cell hb y5 d50
      replace d51 := up_cell hb y5 d51
      replace d52 := up_cell hb y5 d52
      replace y5 := up_size hb (Nat.le_of_lt y5)
      replace d60 := up_cell hb y6 d60
      replace d61 := up_cell hb y6 d61
      replace d62 := up_cell hb y6 d62
      replace y6 := up_size hb (Nat.le_of_lt y6)
      obtain ⟨d70, d71, d72⟩ := new_cell hb
      have y7 : x7.heap.size < x8.heap.size := up_size hb (Nat.le_refl _)
      replace B := up_below hb B
      clear hb
      have hz0 : (b == 0) = false := by simpa using hz
      go_wp2_with fail
      refine (bin_mul _ _ _).mono ?_
      rintro e x9 ⟨rfl, hb⟩
      replace d10 := up_cell hb y1 d10
      replace d11 := up_cell hb y1 d11
      replace d12 := up_cell hb y1 d12
      replace y1 := up_size hb (Nat.le_of_lt y1)
      replace d20 := up_cell hb y2 d20
      replace d21 := up_cell hb y2 d21
      replace d22 := up_cell hb y2 d22
      replace y2 := up_size hb (Nat.le_of_lt y2)
      replace d30 := up_cell hb y3 d30
      replace d31 := up_cell hb y3 d31
      replace d32 := up_cell hb y3 d32
      replace y3 := up_size hb (Nat.le_of_lt y3)
      replace d40 := up_cell hb y4 d40
      replace d41 := up_cell hb y4 d41
      replace d42 := up_cell hb y4 d42
      replace y4 := up_size hb (Nat.le_of_lt y4)
      replace d50 := up_cell hb y5 d50
      replace d51 := up_cell hb y5 d51
      replace d52 := up_cell hb y5 d52
      replace y5 := up_size hb (Nat.le_of_lt y5)
      replace d60 := up_cell hb y6 d60
      replace d61 := up_cell hb y6 d61
      replace d62 := up_cell hb y6 d62
      replace y6 := up_size hb (Nat.le_of_lt y6)
      replace d70 := up_cell hb y7 d70
      replace d71 := up_cell hb y7 d71
      replace d72 := up_cell hb y7 d72
      replace y7 := up_size hb (Nat.le_of_lt y7)
      obtain ⟨d80, d81, d82⟩ := new_cell hb
      have y8 : x8.heap.size < x9.heap.size := up_size hb (Nat.le_refl _)
      replace B := up_below hb B
      clear hb
      clear hz0
      go_wp2_with fail
      refine (bin_add _ _ _).mono ?_
      rintro e x10 ⟨rfl, hb⟩
      replace d10 := up_cell hb y1 d10
      replace d11 := up_cell hb y1 d11
      replace d12 := up_cell hb y1 d12
      replace y1 := up_size hb (Nat.le_of_lt y1)
      replace d20 := up_cell hb y2 d20
      replace d21 := up_cell hb y2 d21
      replace d22 := up_cell hb y2 d22
      replace y2 := up_size hb (Nat.le_of_lt y2)
      replace d30 := up_cell hb y3 d30
      replace d31 := up_cell hb y3 d31
      replace d32 := up_cell hb y3 d32
      replace y3 := up_size hb (Nat.le_of_lt y3)
      replace d40 := up_cell hb y4 d40
      replace d41 := up_cell hb y4 d41
      replace d42 := up_cell hb y4 d42
      replace y4 := up_size hb (Nat.le_of_lt y4)
      replace d50 := up_cell hb y5 d50
      replace d51 := up_cell hb y5 d51
      replace d52 := up_cell hb y5 d52
      replace y5 := up_size hb (Nat.le_of_lt y5)
      replace d60 := up_cell hb y6 d60
      replace d61 := up_cell hb y6 d61
      replace d62 := up_cell hb y6 d62
      replace y6 := up_size hb (Nat.le_of_lt y6)
      replace d70 := up_cell hb y7 d70
      replace d71 := up_cell hb y7 d71
      replace d72 := up_cell hb y7 d72
      replace y7 := up_size hb (Nat.le_of_lt y7)
      replace d80 := up_cell hb y8 d80
      replace d81 := up_cell hb y8 d81
      replace d82 := up_cell hb y8 d82
      replace y8 := up_size hb (Nat.le_of_lt y8)
      obtain ⟨d90, d91, d92⟩ := new_cell hb
      have y9 : x9.heap.size < x10.heap.size := up_size hb (Nat.le_refl _)
      replace B := up_below hb B
      clear hb
      go_wp2_with fail
      refine (bin_lss _ _ _).mono ?_
      rintro e x11 ⟨rfl, hb⟩
      replace d10 := up_cell hb y1 d10
      replace d11 := up_cell hb y1 d11
      replace d12 := up_cell hb y1 d12
      replace y1 := up_size hb (Nat.le_of_lt y1)
      replace d20 := up_cell hb y2 d20
      replace d21 := up_cell hb y2 d21
      replace d22 := up_cell hb y2 d22
      replace y2 := up_size hb (Nat.le_of_lt y2)
      replace d30 := up_cell hb y3 d30
      replace d31 := up_cell hb y3 d31
      replace d32 := up_cell hb y3 d32
      replace y3 := up_size hb (Nat.le_of_lt y3)
      replace d40 := up_cell hb y4 d40
      replace d41 := up_cell hb y4 d41
      replace d42 := up_cell hb y4 d42
      replace y4 := up_size hb (Nat.le_of_lt y4)
      replace d50 := up_cell hb y5 d50
      replace d51 := up_cell hb y5 d51
      replace d52 := up_cell hb y5 d52
      replace y5 := up_size hb (Nat.le_of_lt y5)
      replace d60 := up_cell hb y6 d60
      replace d61 := up_cell hb y6 d61
      replace d62 := up_cell hb y6 d62
      replace y6 := up_size hb (Nat.le_of_lt y6)
      replace d70 := up_cell hb y7 d70
      replace d71 := up_cell hb y7 d71
      replace d72 := up_cell hb y7 d72
      replace y7 := up_size hb (Nat.le_of_lt y7)
      replace d80 := up_cell hb y8 d80
      replace d81 := up_cell hb y8 d81
      replace d82 := up_cell hb y8 d82
      replace y8 := up_size hb (Nat.le_of_lt y8)
      replace d90 := up_cell hb y9 d90
      replace d91 := up_cell hb y9 d91
      replace d92 := up_cell hb y9 d92
      replace y9 := up_size hb (Nat.le_of_lt y9)
      obtain ⟨d100, d101, d102⟩ := new_cell hb
      have y10 : x10.heap.size < x11.heap.size := up_size hb (Nat.le_refl _)
      replace B := up_below hb B
      clear hb
      go_wp2_with fail
      refine (bin_leq _ _ _).mono ?_
      rintro e x12 ⟨rfl, hb⟩
      replace d10 := up_cell hb y1 d10
      replace d11 := up_cell hb y1 d11
      replace d12 := up_cell hb y1 d12
      replace y1 := up_size hb (Nat.le_of_lt y1)
      replace d20 := up_cell hb y2 d20
      replace d21 := up_cell hb y2 d21
      replace d22 := up_cell hb y2 d22
      replace y2 := up_size hb (Nat.le_of_lt y2)
      replace d30 := up_cell hb y3 d30
      replace d31 := up_cell hb y3 d31
      replace d32 := up_cell hb y3 d32
      replace y3 := up_size hb (Nat.le_of_lt y3)
      replace d40 := up_cell hb y4 d40
      replace d41 := up_cell hb y4 d41
      replace d42 := up_cell hb y4 d42
      replace y4 := up_size hb (Nat.le_of_lt y4)
      replace d50 := up_cell hb y5 d50
      replace d51 := up_cell hb y5 d51
      replace d52 := up_cell hb y5 d52
      replace y5 := up_size hb (Nat.le_of_lt y5)
      replace d60 := up_cell hb y6 d60
      replace d61 := up_cell hb y6 d61
      replace d62 := up_cell hb y6 d62
      replace y6 := up_size hb (Nat.le_of_lt y6)
      replace d70 := up_cell hb y7 d70
      replace d71 := up_cell hb y7 d71
      replace d72 := up_cell hb y7 d72
      replace y7 := up_size hb (Nat.le_of_lt y7)
      replace d80 := up_cell hb y8 d80
      replace d81 := up_cell hb y8 d81
      replace d82 := up_cell hb y8 d82
      replace y8 := up_size hb (Nat.le_of_lt y8)
      replace d90 := up_cell hb y9 d90
      replace d91 := up_cell hb y9 d91
      replace d92 := up_cell hb y9 d92
      replace y9 := up_size hb (Nat.le_of_lt y9)
      replace d100 := up_cell hb y10 d100
      replace d101 := up_cell hb y10 d101
      replace d102 := up_cell hb y10 d102
      replace y10 := up_size hb (Nat.le_of_lt y10)
      obtain ⟨d110, d111, d112⟩ := new_cell hb
      have y11 : x11.heap.size < x12.heap.size := up_size hb (Nat.le_refl _)
      replace B := up_below hb B
      clear hb
      rw [e_all a b ha] at d101
      have cs := e_cases a b
      go_wp2_with fail
      obtain ⟨W12, hW⟩ : ∃ W : World, W = x12.alloc (.cells #[.int .i64 2, .int .i64 (bN (decide (b ≤ a))), .string { data := #[] }] 23) := ⟨_, rfl⟩
      replace d10 : W12.cell? ⟨x2.heap.size, 0, none⟩ = _ := (congrArg (fun W : World => W.cell? ⟨x2.heap.size, 0, none⟩) hW).trans (at_alloc y1 d10)
      replace d11 : W12.cell? ⟨x2.heap.size, 1, none⟩ = _ := (congrArg (fun W : World => W.cell? ⟨x2.heap.size, 1, none⟩) hW).trans (at_alloc y1 d11)
      replace d12 : W12.cell? ⟨x2.heap.size, 2, none⟩ = _ := (congrArg (fun W : World => W.cell? ⟨x2.heap.size, 2, none⟩) hW).trans (at_alloc y1 d12)
      replace y1 : x2.heap.size < W12.heap.size := by rw [hW]; simp; omega
      replace d20 : W12.cell? ⟨x3.heap.size, 0, none⟩ = _ := (congrArg (fun W : World => W.cell? ⟨x3.heap.size, 0, none⟩) hW).trans (at_alloc y2 d20)
      replace d21 : W12.cell? ⟨x3.heap.size, 1, none⟩ = _ := (congrArg (fun W : World => W.cell? ⟨x3.heap.size, 1, none⟩) hW).trans (at_alloc y2 d21)
      replace d22 : W12.cell? ⟨x3.heap.size, 2, none⟩ = _ := (congrArg (fun W : World => W.cell? ⟨x3.heap.size, 2, none⟩) hW).trans (at_alloc y2 d22)
      replace y2 : x3.heap.size < W12.heap.size := by rw [hW]; simp; omega
      replace d30 : W12.cell? ⟨x4.heap.size, 0, none⟩ = _ := (congrArg (fun W : World => W.cell? ⟨x4.heap.size, 0, none⟩) hW).trans (at_alloc y3 d30)
      replace d31 : W12.cell? ⟨x4.heap.size, 1, none⟩ = _ := (congrArg (fun W : World => W.cell? ⟨x4.heap.size, 1, none⟩) hW).trans (at_alloc y3 d31)
      replace d32 : W12.cell? ⟨x4.heap.size, 2, none⟩ = _ := (congrArg (fun W : World => W.cell? ⟨x4.heap.size, 2, none⟩) hW).trans (at_alloc y3 d32)
      replace y3 : x4.heap.size < W12.heap.size := by rw [hW]; simp; omega
      replace d40 : W12.cell? ⟨x5.heap.size, 0, none⟩ = _ := (congrArg (fun W : World => W.cell? ⟨x5.heap.size, 0, none⟩) hW).trans (at_alloc y4 d40)
      replace d41 : W12.cell? ⟨x5.heap.size, 1, none⟩ = _ := (congrArg (fun W : World => W.cell? ⟨x5.heap.size, 1, none⟩) hW).trans (at_alloc y4 d41)
      replace d42 : W12.cell? ⟨x5.heap.size, 2, none⟩ = _ := (congrArg (fun W : World => W.cell? ⟨x5.heap.size, 2, none⟩) hW).trans (at_alloc y4 d42)
      replace y4 : x5.heap.size < W12.heap.size := by rw [hW]; simp; omega
      replace d50 : W12.cell? ⟨x6.heap.size, 0, none⟩ = _ := (congrArg (fun W : World => W.cell? ⟨x6.heap.size, 0, none⟩) hW).trans (at_alloc y5 d50)
      replace d51 : W12.cell? ⟨x6.heap.size, 1, none⟩ = _ := (congrArg (fun W : World => W.cell? ⟨x6.heap.size, 1, none⟩) hW).trans (at_alloc y5 d51)
      replace d52 : W12.cell? ⟨x6.heap.size, 2, none⟩ = _ := (congrArg (fun W : World => W.cell? ⟨x6.heap.size, 2, none⟩) hW).trans (at_alloc y5 d52)
      replace y5 : x6.heap.size < W12.heap.size := by rw [hW]; simp; omega
      replace d60 : W12.cell? ⟨g, 0, none⟩ = _ := (congrArg (fun W : World => W.cell? ⟨g, 0, none⟩) hW).trans (at_alloc y6 d60)
      replace d61 : W12.cell? ⟨g, 1, none⟩ = _ := (congrArg (fun W : World => W.cell? ⟨g, 1, none⟩) hW).trans (at_alloc y6 d61)
      replace d62 : W12.cell? ⟨g, 2, none⟩ = _ := (congrArg (fun W : World => W.cell? ⟨g, 2, none⟩) hW).trans (at_alloc y6 d62)
      replace y6 : g < W12.heap.size := by rw [hW]; simp; omega
      replace d70 : W12.cell? ⟨x7.heap.size, 0, none⟩ = _ := (congrArg (fun W : World => W.cell? ⟨x7.heap.size, 0, none⟩) hW).trans (at_alloc y7 d70)
      replace d71 : W12.cell? ⟨x7.heap.size, 1, none⟩ = _ := (congrArg (fun W : World => W.cell? ⟨x7.heap.size, 1, none⟩) hW).trans (at_alloc y7 d71)
      replace d72 : W12.cell? ⟨x7.heap.size, 2, none⟩ = _ := (congrArg (fun W : World => W.cell? ⟨x7.heap.size, 2, none⟩) hW).trans (at_alloc y7 d72)
      replace y7 : x7.heap.size < W12.heap.size := by rw [hW]; simp; omega
      replace d80 : W12.cell? ⟨x8.heap.size, 0, none⟩ = _ := (congrArg (fun W : World => W.cell? ⟨x8.heap.size, 0, none⟩) hW).trans (at_alloc y8 d80)
      replace d81 : W12.cell? ⟨x8.heap.size, 1, none⟩ = _ := (congrArg (fun W : World => W.cell? ⟨x8.heap.size, 1, none⟩) hW).trans (at_alloc y8 d81)
      replace d82 : W12.cell? ⟨x8.heap.size, 2, none⟩ = _ := (congrArg (fun W : World => W.cell? ⟨x8.heap.size, 2, none⟩) hW).trans (at_alloc y8 d82)
      replace y8 : x8.heap.size < W12.heap.size := by rw [hW]; simp; omega
      replace d90 : W12.cell? ⟨x9.heap.size, 0, none⟩ = _ := (congrArg (fun W : World => W.cell? ⟨x9.heap.size, 0, none⟩) hW).trans (at_alloc y9 d90)
      replace d91 : W12.cell? ⟨x9.heap.size, 1, none⟩ = _ := (congrArg (fun W : World => W.cell? ⟨x9.heap.size, 1, none⟩) hW).trans (at_alloc y9 d91)
      replace d92 : W12.cell? ⟨x9.heap.size, 2, none⟩ = _ := (congrArg (fun W : World => W.cell? ⟨x9.heap.size, 2, none⟩) hW).trans (at_alloc y9 d92)
      replace y9 : x9.heap.size < W12.heap.size := by rw [hW]; simp; omega
      replace d100 : W12.cell? ⟨x10.heap.size, 0, none⟩ = _ := (congrArg (fun W : World => W.cell? ⟨x10.heap.size, 0, none⟩) hW).trans (at_alloc y10 d100)
      replace d101 : W12.cell? ⟨x10.heap.size, 1, none⟩ = _ := (congrArg (fun W : World => W.cell? ⟨x10.heap.size, 1, none⟩) hW).trans (at_alloc y10 d101)
      replace d102 : W12.cell? ⟨x10.heap.size, 2, none⟩ = _ := (congrArg (fun W : World => W.cell? ⟨x10.heap.size, 2, none⟩) hW).trans (at_alloc y10 d102)
      replace y10 : x10.heap.size < W12.heap.size := by rw [hW]; simp; omega
      replace d110 : W12.cell? ⟨x11.heap.size, 0, none⟩ = _ := (congrArg (fun W : World => W.cell? ⟨x11.heap.size, 0, none⟩) hW).trans (at_alloc y11 d110)
      replace d111 : W12.cell? ⟨x11.heap.size, 1, none⟩ = _ := (congrArg (fun W : World => W.cell? ⟨x11.heap.size, 1, none⟩) hW).trans (at_alloc y11 d111)
      replace d112 : W12.cell? ⟨x11.heap.size, 2, none⟩ = _ := (congrArg (fun W : World => W.cell? ⟨x11.heap.size, 2, none⟩) hW).trans (at_alloc y11 d112)
      replace y11 : x11.heap.size < W12.heap.size := by rw [hW]; simp; omega
      obtain ⟨d120, d121, d122⟩ : W12.cell? ⟨x12.heap.size, 0, none⟩ = some (.int .i64 2) ∧ W12.cell? ⟨x12.heap.size, 1, none⟩ = some (.int .i64 (bN (decide (b ≤ a)))) ∧ W12.cell? ⟨x12.heap.size, 2, none⟩ = some (.string { data := #[] }) := by rw [hW]; exact at_new
      have y12 : x12.heap.size < W12.heap.size := by rw [hW]; simp
      replace B : Below w.heap.size w W12 := by rw [hW]; exact B.alloc B.size _
      rw [← hW]
      clear hW
      rcases cs with ⟨c1, c2, c3⟩ | ⟨c1, c2, c3⟩ | ⟨c1, c2, c3⟩
      · by_cases hl : a < b
        · skip
          rw [c1] at d81
          have f1 : bN (decide (a < b)) = 1 := by simp [bN, hl]
          have f2 : bN (decide (b ≤ a)) = 0 := by simp [bN]; omega
          rw [f1] at d111
          rw [f2] at d121
          clear f1 f2
          clear c1 c2 c3
          clear d20 d21 d22 y2
          clear d30 d31 d32 y3
          clear d40 d41 d42 y4
          clear d50 d51 d52 y5
          clear d60 d61 d62 y6
          clear d70 d71 d72 y7
          clear d90 d91 d92 y9
          have mk : ∀ w' : World, Below W12.heap.size W12 w' → (w'.cell? ⟨x10.heap.size, 0, none⟩ = some (.int .i64 1) ∧ w'.cell? ⟨x10.heap.size, 1, none⟩ = some (.int .i64 (a)) ∧ w'.cell? ⟨x10.heap.size, 2, none⟩ = some (.string { data := #[] }) ∧ w'.cell? ⟨x2.heap.size, 0, none⟩ = some (.int .i64 1) ∧ w'.cell? ⟨x2.heap.size, 1, none⟩ = some (.int .i64 (a)) ∧ w'.cell? ⟨x2.heap.size, 2, none⟩ = some (.string { data := #[] }) ∧ w'.cell? ⟨x8.heap.size, 0, none⟩ = some (.int .i64 1) ∧ w'.cell? ⟨x8.heap.size, 1, none⟩ = some (.int .i64 (0)) ∧ w'.cell? ⟨x8.heap.size, 2, none⟩ = some (.string { data := #[] }) ∧ w'.cell? ⟨x11.heap.size, 0, none⟩ = some (.int .i64 2) ∧ w'.cell? ⟨x11.heap.size, 1, none⟩ = some (.int .i64 1) ∧ w'.cell? ⟨x11.heap.size, 2, none⟩ = some (.string { data := #[] }) ∧ w'.cell? ⟨x12.heap.size, 0, none⟩ = some (.int .i64 2) ∧ w'.cell? ⟨x12.heap.size, 1, none⟩ = some (.int .i64 0) ∧ w'.cell? ⟨x12.heap.size, 2, none⟩ = some (.string { data := #[] }) ∧ Below W12.heap.size W12 w') := fun w' h => ⟨keep_cell h y10 d100, keep_cell h y10 d101, keep_cell h y10 d102, keep_cell h y1 d10, keep_cell h y1 d11, keep_cell h y1 d12, keep_cell h y8 d80, keep_cell h y8 d81, keep_cell h y8 d82, keep_cell h y11 d110, keep_cell h y11 d111, keep_cell h y11 d112, keep_cell h y12 d120, keep_cell h y12 d121, keep_cell h y12 d122, h⟩
          have MK := Lib.hid mk
          clear mk
          refine wp_region_held_drew (S := fun w' => w'.cell? ⟨x10.heap.size, 0, none⟩ = some (.int .i64 1) ∧ w'.cell? ⟨x10.heap.size, 1, none⟩ = some (.int .i64 (a)) ∧ w'.cell? ⟨x10.heap.size, 2, none⟩ = some (.string { data := #[] }) ∧ w'.cell? ⟨x2.heap.size, 0, none⟩ = some (.int .i64 1) ∧ w'.cell? ⟨x2.heap.size, 1, none⟩ = some (.int .i64 (a)) ∧ w'.cell? ⟨x2.heap.size, 2, none⟩ = some (.string { data := #[] }) ∧ w'.cell? ⟨x8.heap.size, 0, none⟩ = some (.int .i64 1) ∧ w'.cell? ⟨x8.heap.size, 1, none⟩ = some (.int .i64 (0)) ∧ w'.cell? ⟨x8.heap.size, 2, none⟩ = some (.string { data := #[] }) ∧ w'.cell? ⟨x11.heap.size, 0, none⟩ = some (.int .i64 2) ∧ w'.cell? ⟨x11.heap.size, 1, none⟩ = some (.int .i64 1) ∧ w'.cell? ⟨x11.heap.size, 2, none⟩ = some (.string { data := #[] }) ∧ w'.cell? ⟨x12.heap.size, 0, none⟩ = some (.int .i64 2) ∧ w'.cell? ⟨x12.heap.size, 1, none⟩ = some (.int .i64 0) ∧ w'.cell? ⟨x12.heap.size, 2, none⟩ = some (.string { data := #[] }) ∧ Below W12.heap.size W12 w') (by kernel_rfl) (MK.out _ (Below.drew (Below.refl _ _))) (fun hHeld => ?_)
          refine wpAnyH_take (i := 0) (v := ?_) rfl (by kernel_rfl) (by kernel_rfl) (by kernel_rfl) (fun _ _ _ h => h) (Or.inl ⟨by rfl, ?_⟩) (by assumption) ?_
          rotate_left
          · (intro w' hSw; (try dsimp only at hSw); go_simp; (try (with_reducible rfl)))
          simp only [Act.put, List.getElem_toArray, List.getElem_cons_zero, List.setIfInBounds_toArray, List.set_cons_succ, List.set_cons_zero]
          refine wpAnyH_take (i := 1) (v := ?_) rfl (by kernel_rfl) (by kernel_rfl) (by kernel_rfl) (fun _ _ _ h => h) (Or.inl ⟨by rfl, ?_⟩) (by assumption) ?_
          rotate_left
          · (intro w' hSw; (try dsimp only at hSw); go_simp; (try (with_reducible rfl)))
          simp only [Act.put, List.getElem_toArray, List.getElem_cons_succ, List.getElem_cons_zero, List.setIfInBounds_toArray, List.set_cons_succ, List.set_cons_zero]
          refine wpAnyH_take (i := 2) (v := ?_) rfl (by kernel_rfl) (by kernel_rfl) (by kernel_rfl) (fun _ _ _ h => h) (Or.inl ⟨by rfl, ?_⟩) (by assumption) ?_
          rotate_left
          · (intro w' hSw; (try dsimp only at hSw); go_simp; (try (with_reducible rfl)))
          simp only [Act.put, List.getElem_toArray, List.getElem_cons_succ, List.getElem_cons_zero, List.setIfInBounds_toArray, List.set_cons_succ, List.set_cons_zero]
          refine wpAnyH_take (i := 3) (v := ?_) rfl (by kernel_rfl) (by kernel_rfl) (by kernel_rfl) (fun _ _ _ h => h) (Or.inl ⟨by rfl, ?_⟩) (by assumption) ?_
          rotate_left
          · (intro w' hSw; (try dsimp only at hSw); go_simp; (try (with_reducible rfl)))
          simp only [Act.put, List.getElem_toArray, List.getElem_cons_succ, List.getElem_cons_zero, List.setIfInBounds_toArray, List.set_cons_succ, List.set_cons_zero]
          refine wpAnyH_take (i := 4) (v := ?_) rfl (by kernel_rfl) (by kernel_rfl) (by kernel_rfl) (fun _ _ _ h => h) (Or.inl ⟨by rfl, ?_⟩) (by assumption) ?_
          rotate_left
          · (intro w' hSw; (try dsimp only at hSw); go_simp; (try (with_reducible rfl)))
          simp only [Act.put, List.getElem_toArray, List.getElem_cons_succ, List.getElem_cons_zero, List.setIfInBounds_toArray, List.set_cons_succ, List.set_cons_zero]
          refine wpAnyH_take (i := 5) (v := ?_) rfl (by kernel_rfl) (by kernel_rfl) (by kernel_rfl) (fun _ _ _ h => h) (Or.inl ⟨by rfl, ?_⟩) (by assumption) ?_
          rotate_left
          · (intro w' hSw; (try dsimp only at hSw); go_simp; (try (with_reducible rfl)))
          simp only [Act.put, List.getElem_toArray, List.getElem_cons_succ, List.getElem_cons_zero, List.setIfInBounds_toArray, List.set_cons_succ, List.set_cons_zero]
          refine wpAnyH_take (i := 6) (v := ?_) rfl (by kernel_rfl) (by kernel_rfl) (by kernel_rfl) (fun _ _ _ h => h) (Or.inl ⟨by rfl, ?_⟩) (by assumption) ?_
          rotate_left
          · (intro w' hSw; (try dsimp only at hSw); go_simp; (try (with_reducible rfl)))
          simp only [Act.put, List.getElem_toArray, List.getElem_cons_succ, List.getElem_cons_zero, List.setIfInBounds_toArray, List.set_cons_succ, List.set_cons_zero]
          refine wpAnyH_take (i := 7) (v := ?_) rfl (by kernel_rfl) (by kernel_rfl) (by kernel_rfl) (fun _ _ _ h => h) (Or.inl ⟨by rfl, ?_⟩) (by assumption) ?_
          rotate_left
          · (intro w' hSw; (try dsimp only at hSw); go_simp; (try (with_reducible rfl)))
          simp only [Act.put, List.getElem_toArray, List.getElem_cons_succ, List.getElem_cons_zero, List.setIfInBounds_toArray, List.set_cons_succ, List.set_cons_zero]
          refine wpAnyH_take (i := 8) (v := ?_) rfl (by kernel_rfl) (by kernel_rfl) (by kernel_rfl) (fun _ _ _ h => h) (Or.inl ⟨by rfl, ?_⟩) (by assumption) ?_
          rotate_left
          · (intro w' hSw; (try dsimp only at hSw); go_simp; (try (with_reducible rfl)))
          simp only [Act.put, List.getElem_toArray, List.getElem_cons_succ, List.getElem_cons_zero, List.setIfInBounds_toArray, List.set_cons_succ, List.set_cons_zero]
          refine wpAnyH_take (i := 9) (v := ?_) rfl (by kernel_rfl) (by kernel_rfl) (by kernel_rfl) (fun _ _ _ h => h) (Or.inl ⟨by rfl, ?_⟩) (by assumption) ?_
          rotate_left
          · (intro w' hSw; (try dsimp only at hSw); go_simp; (try (with_reducible rfl)))
          simp only [Act.put, List.getElem_toArray, List.getElem_cons_succ, List.getElem_cons_zero, List.setIfInBounds_toArray, List.set_cons_succ, List.set_cons_zero]
          refine wpAnyH_take (i := 10) (v := ?_) rfl (by kernel_rfl) (by kernel_rfl) (by kernel_rfl) (fun _ _ _ h => h) (Or.inl ⟨by rfl, ?_⟩) (by assumption) ?_
          rotate_left
          · (intro w' hSw; (try dsimp only at hSw); go_simp; (try (with_reducible rfl)))
          simp only [Act.put, List.getElem_toArray, List.getElem_cons_succ, List.getElem_cons_zero, List.setIfInBounds_toArray, List.set_cons_succ, List.set_cons_zero]
          refine wpAnyH_take (i := 11) (v := ?_) rfl (by kernel_rfl) (by kernel_rfl) (by kernel_rfl) (fun _ _ _ h => h) (Or.inl ⟨by rfl, ?_⟩) (by assumption) ?_
          rotate_left
          · (intro w' hSw; (try dsimp only at hSw); go_simp; (try (with_reducible rfl)))
          simp only [Act.put, List.getElem_toArray, List.getElem_cons_succ, List.getElem_cons_zero, List.setIfInBounds_toArray, List.set_cons_succ, List.set_cons_zero]
          refine wpAnyH_take (i := 12) (v := ?_) rfl (by kernel_rfl) (by kernel_rfl) (by kernel_rfl) (fun _ _ _ h => h) (Or.inl ⟨by rfl, ?_⟩) (by assumption) ?_
          rotate_left
          · (intro w' hSw; (try dsimp only at hSw); go_simp; (try (with_reducible rfl)))
          simp only [Act.put, List.getElem_toArray, List.getElem_cons_succ, List.getElem_cons_zero, List.setIfInBounds_toArray, List.set_cons_succ, List.set_cons_zero]
          refine wpAnyH_take (i := 13) (v := ?_) rfl (by kernel_rfl) (by kernel_rfl) (by kernel_rfl) (fun _ _ _ h => h) (Or.inl ⟨by rfl, ?_⟩) (by assumption) ?_
          rotate_left
          · (intro w' hSw; (try dsimp only at hSw); go_simp; (try (with_reducible rfl)))
          simp only [Act.put, List.getElem_toArray, List.getElem_cons_succ, List.getElem_cons_zero, List.setIfInBounds_toArray, List.set_cons_succ, List.set_cons_zero]
          refine wpAnyH_take (i := 14) (v := ?_) rfl (by kernel_rfl) (by kernel_rfl) (by kernel_rfl) (fun _ _ _ h => h) (Or.inl ⟨by rfl, ?_⟩) (by assumption) ?_
          rotate_left
          · (intro w' hSw; (try dsimp only at hSw); go_simp; (try (with_reducible rfl)))
          simp only [Act.put, List.getElem_toArray, List.getElem_cons_succ, List.getElem_cons_zero, List.setIfInBounds_toArray, List.set_cons_succ, List.set_cons_zero]
          refine wpAnyH_take (i := 15) (v := ?_) rfl (by kernel_rfl) (by kernel_rfl) (by kernel_rfl) (fun _ _ _ h => h) (Or.inl ⟨by rfl, ?_⟩) (by assumption) ?_
          rotate_left
          · (intro w' hSw; (try dsimp only at hSw); go_simp; (try (with_reducible rfl)))
          simp only [Act.put, List.getElem_toArray, List.getElem_cons_succ, List.getElem_cons_zero, List.setIfInBounds_toArray, List.set_cons_succ, List.set_cons_zero]
          refine wpAnyH_take (i := 16) (v := ?_) rfl (by kernel_rfl) (by kernel_rfl) (by kernel_rfl) (fun _ _ _ h => h) (Or.inl ⟨by rfl, ?_⟩) (by assumption) ?_
          rotate_left
          · (intro w' hSw; (try dsimp only at hSw); go_simp; (try (with_reducible rfl)))
          simp only [Act.put, List.getElem_toArray, List.getElem_cons_succ, List.getElem_cons_zero, List.setIfInBounds_toArray, List.set_cons_succ, List.set_cons_zero]
          refine wpAnyH_take (i := 17) (v := ?_) rfl (by kernel_rfl) (by kernel_rfl) (by kernel_rfl) (fun _ _ _ h => h) (Or.inl ⟨by rfl, ?_⟩) (by assumption) ?_
          rotate_left
          · (intro w' hSw; (try dsimp only at hSw); go_simp; (try (with_reducible rfl)))
          simp only [Act.put, List.getElem_toArray, List.getElem_cons_succ, List.getElem_cons_zero, List.setIfInBounds_toArray, List.set_cons_succ, List.set_cons_zero]
          refine wpAnyH_take (i := 18) (v := ?_) rfl (by kernel_rfl) (by kernel_rfl) (by kernel_rfl) (fun _ _ _ h => h) (Or.inl ⟨by rfl, ?_⟩) (by assumption) ?_
          rotate_left
          · (intro w' hSw; (try dsimp only at hSw); go_simp; (try (with_reducible rfl)))
          simp only [Act.put, List.getElem_toArray, List.getElem_cons_succ, List.getElem_cons_zero, List.setIfInBounds_toArray, List.set_cons_succ, List.set_cons_zero]
          refine wpAnyH_take (i := 19) (v := ?_) rfl (by kernel_rfl) (by kernel_rfl) (by kernel_rfl) (fun _ _ _ h => h) (Or.inl ⟨by rfl, ?_⟩) (by assumption) ?_
          rotate_left
          · (intro w' hSw; (try dsimp only at hSw); go_simp; (try (with_reducible rfl)))
          simp only [Act.put, List.getElem_toArray, List.getElem_cons_succ, List.getElem_cons_zero, List.setIfInBounds_toArray, List.set_cons_succ, List.set_cons_zero]
          refine wpAnyH_take (i := 20) (v := ?_) rfl (by kernel_rfl) (by kernel_rfl) (by kernel_rfl) (fun _ _ _ h => h) (Or.inl ⟨by rfl, ?_⟩) (by assumption) ?_
          rotate_left
          · (intro w' hSw; (try dsimp only at hSw); go_simp; (try (with_reducible rfl)))
          simp only [Act.put, List.getElem_toArray, List.getElem_cons_succ, List.getElem_cons_zero, List.setIfInBounds_toArray, List.set_cons_succ, List.set_cons_zero]
          refine wpAnyH_take (i := 21) (v := ?_) rfl (by kernel_rfl) (by kernel_rfl) (by kernel_rfl) (fun _ _ _ h => h) (Or.inl ⟨by rfl, ?_⟩) (by assumption) ?_
          rotate_left
          · (intro w' hSw; (try dsimp only at hSw); go_simp; (try (with_reducible rfl)))
          simp only [Act.put, List.getElem_toArray, List.getElem_cons_succ, List.getElem_cons_zero, List.setIfInBounds_toArray, List.set_cons_succ, List.set_cons_zero]
          refine wpAnyH_take (i := 22) (v := ?_) rfl (by kernel_rfl) (by kernel_rfl) (by kernel_rfl) (fun _ _ _ h => h) (Or.inl ⟨by rfl, ?_⟩) (by assumption) ?_
          rotate_left
          · (intro w' hSw; (try dsimp only at hSw); go_simp; (try (with_reducible rfl)))
          simp only [Act.put, List.getElem_toArray, List.getElem_cons_succ, List.getElem_cons_zero, List.setIfInBounds_toArray, List.set_cons_succ, List.set_cons_zero]
          refine wpAnyH_take (i := 23) (v := ?_) rfl (by kernel_rfl) (by kernel_rfl) (by kernel_rfl) (fun _ _ _ h => h) (Or.inl ⟨by rfl, ?_⟩) (by assumption) ?_
          rotate_left
          · (intro w' hSw; (try dsimp only at hSw); go_simp; (try (with_reducible rfl)))
          simp only [Act.put, List.getElem_toArray, List.getElem_cons_succ, List.getElem_cons_zero, List.setIfInBounds_toArray, List.set_cons_succ, List.set_cons_zero]
          refine wpAnyH_take (i := 24) (v := ?_) rfl (by kernel_rfl) (by kernel_rfl) (by kernel_rfl) (fun _ _ _ h => h) (Or.inl ⟨by rfl, ?_⟩) (by assumption) ?_
          rotate_left
          · (intro w' hSw; (try dsimp only at hSw); go_simp; (try (with_reducible rfl)))
          simp only [Act.put, List.getElem_toArray, List.getElem_cons_succ, List.getElem_cons_zero, List.setIfInBounds_toArray, List.set_cons_succ, List.set_cons_zero]
          refine wpAnyH_take (i := 25) (v := ?_) rfl (by kernel_rfl) (by kernel_rfl) (by kernel_rfl) (fun _ _ _ h => h) (Or.inl ⟨by rfl, ?_⟩) (by assumption) ?_
          rotate_left
          · (intro w' hSw; (try dsimp only at hSw); go_simp; (try (with_reducible rfl)))
          simp only [Act.put, List.getElem_toArray, List.getElem_cons_succ, List.getElem_cons_zero, List.setIfInBounds_toArray, List.set_cons_succ, List.set_cons_zero]
          refine wpAnyH_take (i := 26) (v := ?_) rfl (by kernel_rfl) (by kernel_rfl) (by kernel_rfl) (fun _ _ _ h => h) (Or.inl ⟨by rfl, ?_⟩) (by assumption) ?_
          rotate_left
          · (intro w' hSw; (try dsimp only at hSw); go_simp; (try (with_reducible rfl)))
          simp only [Act.put, List.getElem_toArray, List.getElem_cons_succ, List.getElem_cons_zero, List.setIfInBounds_toArray, List.set_cons_succ, List.set_cons_zero]
          refine wpAnyH_take (i := 27) (v := undef) rfl (by kernel_rfl) (by kernel_rfl) (by kernel_rfl) (fun _ _ _ h => h) (Or.inr ⟨by rfl, rfl⟩) (by assumption) ?_
          simp only [Act.put, List.getElem_toArray, List.getElem_cons_succ, List.getElem_cons_zero, List.setIfInBounds_toArray, List.set_cons_succ, List.set_cons_zero]
          refine wpAnyH_take (i := 28) (v := undef) rfl (by kernel_rfl) (by kernel_rfl) (by kernel_rfl) (fun _ _ _ h => h) (Or.inr ⟨by rfl, rfl⟩) (by assumption) ?_
          simp only [Act.put, List.getElem_toArray, List.getElem_cons_succ, List.getElem_cons_zero, List.setIfInBounds_toArray, List.set_cons_succ, List.set_cons_zero]
          refine wpAnyH_take (i := 29) (v := undef) rfl (by kernel_rfl) (by kernel_rfl) (by kernel_rfl) (fun _ _ _ h => h) (Or.inr ⟨by rfl, rfl⟩) (by assumption) ?_
          simp only [Act.put, List.getElem_toArray, List.getElem_cons_succ, List.getElem_cons_zero, List.setIfInBounds_toArray, List.set_cons_succ, List.set_cons_zero]
          refine wpAnyH_take (i := 30) (v := undef) rfl (by kernel_rfl) (by kernel_rfl) (by kernel_rfl) (fun _ _ _ h => h) (Or.inr ⟨by rfl, rfl⟩) (by assumption) ?_
          simp only [Act.put, List.getElem_toArray, List.getElem_cons_succ, List.getElem_cons_zero, List.setIfInBounds_toArray, List.set_cons_succ, List.set_cons_zero]
          refine wpAnyH_take (i := 31) (v := undef) rfl (by kernel_rfl) (by kernel_rfl) (by kernel_rfl) (fun _ _ _ h => h) (Or.inr ⟨by rfl, rfl⟩) (by assumption) ?_
          simp only [Act.put, List.getElem_toArray, List.getElem_cons_succ, List.getElem_cons_zero, List.setIfInBounds_toArray, List.set_cons_succ, List.set_cons_zero]
          refine wpAnyH_take (i := 32) (v := undef) rfl (by kernel_rfl) (by kernel_rfl) (by kernel_rfl) (fun _ _ _ h => h) (Or.inr ⟨by rfl, rfl⟩) (by assumption) ?_
          simp only [Act.put, List.getElem_toArray, List.getElem_cons_succ, List.getElem_cons_zero, List.setIfInBounds_toArray, List.set_cons_succ, List.set_cons_zero]
          refine wpAnyH_take (i := 33) (v := ?_) rfl (by kernel_rfl) (by kernel_rfl) (by kernel_rfl) (fun _ _ _ h => h) (Or.inl ⟨by rfl, ?_⟩) (by assumption) ?_
          rotate_left
          · (intro w' hSw; (try dsimp only at hSw); go_simp; (try (with_reducible rfl)))
          simp only [Act.put, List.getElem_toArray, List.getElem_cons_succ, List.getElem_cons_zero, List.setIfInBounds_toArray, List.set_cons_succ, List.set_cons_zero]
          refine wpAnyH_take (i := 34) (v := ?_) rfl (by kernel_rfl) (by kernel_rfl) (by kernel_rfl) (fun _ _ _ h => h) (Or.inl ⟨by rfl, ?_⟩) (by assumption) ?_
          rotate_left
          · (intro w' hSw; (try dsimp only at hSw); go_simp; (try (with_reducible rfl)))
          simp only [Act.put, List.getElem_toArray, List.getElem_cons_succ, List.getElem_cons_zero, List.setIfInBounds_toArray, List.set_cons_succ, List.set_cons_zero]
          refine wpAnyH_take (i := 35) (v := ?_) rfl (by kernel_rfl) (by kernel_rfl) (by kernel_rfl) (fun _ _ _ h => h) (Or.inl ⟨by rfl, ?_⟩) (by assumption) ?_
          rotate_left
          · (intro w' hSw; (try dsimp only at hSw); go_simp; (try (with_reducible rfl)))
          simp only [Act.put, List.getElem_toArray, List.getElem_cons_succ, List.getElem_cons_zero, List.setIfInBounds_toArray, List.set_cons_succ, List.set_cons_zero]
          refine wpAnyH_take (i := 36) (v := ?_) rfl (by kernel_rfl) (by kernel_rfl) (by kernel_rfl) (fun _ _ _ h => h) (Or.inl ⟨by rfl, ?_⟩) (by assumption) ?_
          rotate_left
          · (intro w' hSw; (try dsimp only at hSw); go_simp; (try (with_reducible rfl)))
          simp only [Act.put, List.getElem_toArray, List.getElem_cons_succ, List.getElem_cons_zero, List.setIfInBounds_toArray, List.set_cons_succ, List.set_cons_zero]
          refine wpAnyH_take (i := 37) (v := ?_) rfl (by kernel_rfl) (by kernel_rfl) (by kernel_rfl) (fun _ _ _ h => h) (Or.inl ⟨by rfl, ?_⟩) (by assumption) ?_
          rotate_left
          · (intro w' hSw; (try dsimp only at hSw); go_simp; (try (with_reducible rfl)))
          simp only [Act.put, List.getElem_toArray, List.getElem_cons_succ, List.getElem_cons_zero, List.setIfInBounds_toArray, List.set_cons_succ, List.set_cons_zero]
          refine wpAnyH_take (i := 38) (v := ?_) rfl (by kernel_rfl) (by kernel_rfl) (by kernel_rfl) (fun _ _ _ h => h) (Or.inl ⟨by rfl, ?_⟩) (by assumption) ?_
          rotate_left
          · (intro w' hSw; (try dsimp only at hSw); go_simp; (try (with_reducible rfl)))
          simp only [Act.put, List.getElem_toArray, List.getElem_cons_succ, List.getElem_cons_zero, List.setIfInBounds_toArray, List.set_cons_succ, List.set_cons_zero]
          refine wpAnyH_take (i := 39) (v := ?_) rfl (by kernel_rfl) (by kernel_rfl) (by kernel_rfl) (fun _ _ _ h => h) (Or.inl ⟨by rfl, ?_⟩) (by assumption) ?_
          rotate_left
          · (intro w' hSw; (try dsimp only at hSw); go_simp; (try (with_reducible rfl)))
          simp only [Act.put, List.getElem_toArray, List.getElem_cons_succ, List.getElem_cons_zero, List.setIfInBounds_toArray, List.set_cons_succ, List.set_cons_zero]
          refine wpAnyH_take (i := 40) (v := ?_) rfl (by kernel_rfl) (by kernel_rfl) (by kernel_rfl) (fun _ _ _ h => h) (Or.inl ⟨by rfl, ?_⟩) (by assumption) ?_
          rotate_left
          · (intro w' hSw; (try dsimp only at hSw); go_simp; (try (with_reducible rfl)))
          simp only [Act.put, List.getElem_toArray, List.getElem_cons_succ, List.getElem_cons_zero, List.setIfInBounds_toArray, List.set_cons_succ, List.set_cons_zero]
          refine wpAnyH_take (i := 41) (v := ?_) rfl (by kernel_rfl) (by kernel_rfl) (by kernel_rfl) (fun _ _ _ h => h) (Or.inl ⟨by rfl, ?_⟩) (by assumption) ?_
          rotate_left
          · (intro w' hSw; (try dsimp only at hSw); go_simp; (try (with_reducible rfl)))
          simp only [Act.put, List.getElem_toArray, List.getElem_cons_succ, List.getElem_cons_zero, List.setIfInBounds_toArray, List.set_cons_succ, List.set_cons_zero]
          refine wpAnyH_take (i := 42) (v := ?_) rfl (by kernel_rfl) (by kernel_rfl) (by kernel_rfl) (fun _ _ _ h => h) (Or.inl ⟨by rfl, ?_⟩) (by assumption) ?_
          rotate_left
          · (intro w' hSw; (try dsimp only at hSw); go_simp; (try (with_reducible rfl)))
          simp only [Act.put, List.getElem_toArray, List.getElem_cons_succ, List.getElem_cons_zero, List.setIfInBounds_toArray, List.set_cons_succ, List.set_cons_zero]
          refine wpAnyH_take (i := 43) (v := ?_) rfl (by kernel_rfl) (by kernel_rfl) (by kernel_rfl) (fun _ _ _ h => h) (Or.inl ⟨by rfl, ?_⟩) (by assumption) ?_
          rotate_left
          · (intro w' hSw; (try dsimp only at hSw); go_simp; (try (with_reducible rfl)))
          simp only [Act.put, List.getElem_toArray, List.getElem_cons_succ, List.getElem_cons_zero, List.setIfInBounds_toArray, List.set_cons_succ, List.set_cons_zero]
          refine wpAnyH_take (i := 44) (v := ?_) rfl (by kernel_rfl) (by kernel_rfl) (by kernel_rfl) (fun _ _ _ h => h) (Or.inl ⟨by rfl, ?_⟩) (by assumption) ?_
          rotate_left
          · (intro w' hSw; (try dsimp only at hSw); go_simp; (try (with_reducible rfl)))
          simp only [Act.put, List.getElem_toArray, List.getElem_cons_succ, List.getElem_cons_zero, List.setIfInBounds_toArray, List.set_cons_succ, List.set_cons_zero]
          refine wpAnyH_take (i := 45) (v := ?_) rfl (by kernel_rfl) (by kernel_rfl) (by kernel_rfl) (fun _ _ _ h => h) (Or.inl ⟨by rfl, ?_⟩) (by assumption) ?_
          rotate_left
          · (intro w' hSw; (try dsimp only at hSw); go_simp; (try (with_reducible rfl)))
          simp only [Act.put, List.getElem_toArray, List.getElem_cons_succ, List.getElem_cons_zero, List.setIfInBounds_toArray, List.set_cons_succ, List.set_cons_zero]
          refine wpAnyH_ready (rs := [46]) (by kernel_rfl) (by simp) ?_
          refine AllReadyH.cons rfl (fun K hK => ?_) AllReadyH.nil
          go_simp
          (go_at_call 23; refine (sign_not0 _).mono ?_; rintro e w4 ⟨rfl, hb4⟩; (try go_simp))
          refine hK.out _ _ ?_ (fun hHeld => ?_)
          · (try dsimp only); ((try go_split_ands); refine MK.out _ ?_; repeat (first | assumption | exact Below.refl _ _ | apply Below.drew | apply kb_alloc | refine keep_below ?_ hb4))
          clear hK K
          refine wpAnyH_take (i := 47) (v := ?_) rfl (by kernel_rfl) (by kernel_rfl) (by kernel_rfl) (fun _ _ _ h => h) (Or.inl ⟨by rfl, ?_⟩) (by assumption) ?_
          rotate_left
          · (intro w' hSw; (try dsimp only at hSw); go_simp; (try (with_reducible rfl)))
          simp only [Act.put, List.getElem_toArray, List.getElem_cons_succ, List.getElem_cons_zero, List.setIfInBounds_toArray, List.set_cons_succ, List.set_cons_zero]
          refine wpAnyH_take (i := 48) (v := ?_) rfl (by kernel_rfl) (by kernel_rfl) (by kernel_rfl) (fun _ _ _ h => h) (Or.inl ⟨by rfl, ?_⟩) (by assumption) ?_
          rotate_left
          · (intro w' hSw; (try dsimp only at hSw); go_simp; (try (with_reducible rfl)))
          simp only [Act.put, List.getElem_toArray, List.getElem_cons_succ, List.getElem_cons_zero, List.setIfInBounds_toArray, List.set_cons_succ, List.set_cons_zero]
          refine wpAnyH_take (i := 49) (v := ?_) rfl (by kernel_rfl) (by kernel_rfl) (by kernel_rfl) (fun _ _ _ h => h) (Or.inl ⟨by rfl, ?_⟩) (by assumption) ?_
          rotate_left
          · (intro w' hSw; (try dsimp only at hSw); go_simp; (try (with_reducible rfl)))
          simp only [Act.put, List.getElem_toArray, List.getElem_cons_succ, List.getElem_cons_zero, List.setIfInBounds_toArray, List.set_cons_succ, List.set_cons_zero]
          refine wpAnyH_take (i := 50) (v := ?_) rfl (by kernel_rfl) (by kernel_rfl) (by kernel_rfl) (fun _ _ _ h => h) (Or.inl ⟨by rfl, ?_⟩) (by assumption) ?_
          rotate_left
          · (intro w' hSw; (try dsimp only at hSw); go_simp; (try (with_reducible rfl)))
          simp only [Act.put, List.getElem_toArray, List.getElem_cons_succ, List.getElem_cons_zero, List.setIfInBounds_toArray, List.set_cons_succ, List.set_cons_zero]
          refine wpAnyH_take (i := 51) (v := ?_) rfl (by kernel_rfl) (by kernel_rfl) (by kernel_rfl) (fun _ _ _ h => h) (Or.inl ⟨by rfl, ?_⟩) (by assumption) ?_
          rotate_left
          · (intro w' hSw; (try dsimp only at hSw); go_simp; (try (with_reducible rfl)))
          simp only [Act.put, List.getElem_toArray, List.getElem_cons_succ, List.getElem_cons_zero, List.setIfInBounds_toArray, List.set_cons_succ, List.set_cons_zero]
          refine wpAnyH_take (i := 52) (v := ?_) rfl (by kernel_rfl) (by kernel_rfl) (by kernel_rfl) (fun _ _ _ h => h) (Or.inl ⟨by rfl, ?_⟩) (by assumption) ?_
          rotate_left
          · (intro w' hSw; (try dsimp only at hSw); go_simp; (try (with_reducible rfl)))
          simp only [Act.put, List.getElem_toArray, List.getElem_cons_succ, List.getElem_cons_zero, List.setIfInBounds_toArray, List.set_cons_succ, List.set_cons_zero]
          refine wpAnyH_take (i := 53) (v := ?_) rfl (by kernel_rfl) (by kernel_rfl) (by kernel_rfl) (fun _ _ _ h => h) (Or.inl ⟨by rfl, ?_⟩) (by assumption) ?_
          rotate_left
          · (intro w' hSw; (try dsimp only at hSw); go_simp; (try (with_reducible rfl)))
          simp only [Act.put, List.getElem_toArray, List.getElem_cons_succ, List.getElem_cons_zero, List.setIfInBounds_toArray, List.set_cons_succ, List.set_cons_zero]
          refine wpAnyH_take (i := 54) (v := ?_) rfl (by kernel_rfl) (by kernel_rfl) (by kernel_rfl) (fun _ _ _ h => h) (Or.inl ⟨by rfl, ?_⟩) (by assumption) ?_
          rotate_left
          · (intro w' hSw; (try dsimp only at hSw); go_simp; (try (with_reducible rfl)))
          simp only [Act.put, List.getElem_toArray, List.getElem_cons_succ, List.getElem_cons_zero, List.setIfInBounds_toArray, List.set_cons_succ, List.set_cons_zero]
          refine wpAnyH_take (i := 55) (v := ?_) rfl (by kernel_rfl) (by kernel_rfl) (by kernel_rfl) (fun _ _ _ h => h) (Or.inl ⟨by rfl, ?_⟩) (by assumption) ?_
          rotate_left
          · (intro w' hSw; (try dsimp only at hSw); go_simp; (try (with_reducible rfl)))
          simp only [Act.put, List.getElem_toArray, List.getElem_cons_succ, List.getElem_cons_zero, List.setIfInBounds_toArray, List.set_cons_succ, List.set_cons_zero]
          refine wpAnyH_take (i := 56) (v := ?_) rfl (by kernel_rfl) (by kernel_rfl) (by kernel_rfl) (fun _ _ _ h => h) (Or.inl ⟨by rfl, ?_⟩) (by assumption) ?_
          rotate_left
          · (intro w' hSw; (try dsimp only at hSw); go_simp; (try (with_reducible rfl)))
          simp only [Act.put, List.getElem_toArray, List.getElem_cons_succ, List.getElem_cons_zero, List.setIfInBounds_toArray, List.set_cons_succ, List.set_cons_zero]
          refine wpAnyH_take (i := 57) (v := ?_) rfl (by kernel_rfl) (by kernel_rfl) (by kernel_rfl) (fun _ _ _ h => h) (Or.inl ⟨by rfl, ?_⟩) (by assumption) ?_
          rotate_left
          · (intro w' hSw; (try dsimp only at hSw); go_simp; (try (with_reducible rfl)))
          simp only [Act.put, List.getElem_toArray, List.getElem_cons_succ, List.getElem_cons_zero, List.setIfInBounds_toArray, List.set_cons_succ, List.set_cons_zero]
          refine wpAnyH_take (i := 58) (v := ?_) rfl (by kernel_rfl) (by kernel_rfl) (by kernel_rfl) (fun _ _ _ h => h) (Or.inl ⟨by rfl, ?_⟩) (by assumption) ?_
          rotate_left
          · (intro w' hSw; (try dsimp only at hSw); go_simp; (try (with_reducible rfl)))
          simp only [Act.put, List.getElem_toArray, List.getElem_cons_succ, List.getElem_cons_zero, List.setIfInBounds_toArray, List.set_cons_succ, List.set_cons_zero]
          refine wpAnyH_done (by kernel_rfl) ?_ _
          have hb : Below W12.heap.size W12 w4 := (by assumption : w4.cell? ⟨x10.heap.size, 0, none⟩ = some (.int .i64 1) ∧ w4.cell? ⟨x10.heap.size, 1, none⟩ = some (.int .i64 (a)) ∧ w4.cell? ⟨x10.heap.size, 2, none⟩ = some (.string { data := #[] }) ∧ w4.cell? ⟨x2.heap.size, 0, none⟩ = some (.int .i64 1) ∧ w4.cell? ⟨x2.heap.size, 1, none⟩ = some (.int .i64 (a)) ∧ w4.cell? ⟨x2.heap.size, 2, none⟩ = some (.string { data := #[] }) ∧ w4.cell? ⟨x8.heap.size, 0, none⟩ = some (.int .i64 1) ∧ w4.cell? ⟨x8.heap.size, 1, none⟩ = some (.int .i64 (0)) ∧ w4.cell? ⟨x8.heap.size, 2, none⟩ = some (.string { data := #[] }) ∧ w4.cell? ⟨x11.heap.size, 0, none⟩ = some (.int .i64 2) ∧ w4.cell? ⟨x11.heap.size, 1, none⟩ = some (.int .i64 1) ∧ w4.cell? ⟨x11.heap.size, 2, none⟩ = some (.string { data := #[] }) ∧ w4.cell? ⟨x12.heap.size, 0, none⟩ = some (.int .i64 2) ∧ w4.cell? ⟨x12.heap.size, 1, none⟩ = some (.int .i64 0) ∧ w4.cell? ⟨x12.heap.size, 2, none⟩ = some (.string { data := #[] }) ∧ Below W12.heap.size W12 w4).2.2.2.2.2.2.2.2.2.2.2.2.2.2.2
          replace d10 := keep_cell hb y1 d10
          replace d11 := keep_cell hb y1 d11
          replace d12 := keep_cell hb y1 d12
          replace y1 := Nat.lt_of_lt_of_le y1 hb.size
          replace d80 := keep_cell hb y8 d80
          replace d81 := keep_cell hb y8 d81
          replace d82 := keep_cell hb y8 d82
          replace y8 := Nat.lt_of_lt_of_le y8 hb.size
          replace d100 := keep_cell hb y10 d100
          replace d101 := keep_cell hb y10 d101
          replace d102 := keep_cell hb y10 d102
          replace y10 := Nat.lt_of_lt_of_le y10 hb.size
          replace d110 := keep_cell hb y11 d110
          replace d111 := keep_cell hb y11 d111
          replace d112 := keep_cell hb y11 d112
          replace y11 := Nat.lt_of_lt_of_le y11 hb.size
          replace d120 := keep_cell hb y12 d120
          replace d121 := keep_cell hb y12 d121
          replace d122 := keep_cell hb y12 d122
          replace y12 := Nat.lt_of_lt_of_le y12 hb.size
          replace B := keep_below B hb
          clear hb
          go_wp2
          go_ret
          exact ⟨rfl, B⟩
        · skip
          rw [c1] at d81
          have f1 : bN (decide (a < b)) = 0 := by simp [bN]; omega
          have f2 : bN (decide (b ≤ a)) = 1 := by simp [bN]; omega
          rw [f1] at d111
          rw [f2] at d121
          clear f1 f2
          clear c1 c2 c3
          have hl2 : decide (a < b) = false := by simpa using hl
          clear d20 d21 d22 y2
          clear d30 d31 d32 y3
          clear d40 d41 d42 y4
          clear d50 d51 d52 y5
          clear d60 d61 d62 y6
          clear d70 d71 d72 y7
          clear d90 d91 d92 y9
          have mk : ∀ w' : World, Below W12.heap.size W12 w' → (w'.cell? ⟨x10.heap.size, 0, none⟩ = some (.int .i64 1) ∧ w'.cell? ⟨x10.heap.size, 1, none⟩ = some (.int .i64 (a)) ∧ w'.cell? ⟨x10.heap.size, 2, none⟩ = some (.string { data := #[] }) ∧ w'.cell? ⟨x2.heap.size, 0, none⟩ = some (.int .i64 1) ∧ w'.cell? ⟨x2.heap.size, 1, none⟩ = some (.int .i64 (a)) ∧ w'.cell? ⟨x2.heap.size, 2, none⟩ = some (.string { data := #[] }) ∧ w'.cell? ⟨x8.heap.size, 0, none⟩ = some (.int .i64 1) ∧ w'.cell? ⟨x8.heap.size, 1, none⟩ = some (.int .i64 (0)) ∧ w'.cell? ⟨x8.heap.size, 2, none⟩ = some (.string { data := #[] }) ∧ w'.cell? ⟨x11.heap.size, 0, none⟩ = some (.int .i64 2) ∧ w'.cell? ⟨x11.heap.size, 1, none⟩ = some (.int .i64 0) ∧ w'.cell? ⟨x11.heap.size, 2, none⟩ = some (.string { data := #[] }) ∧ w'.cell? ⟨x12.heap.size, 0, none⟩ = some (.int .i64 2) ∧ w'.cell? ⟨x12.heap.size, 1, none⟩ = some (.int .i64 1) ∧ w'.cell? ⟨x12.heap.size, 2, none⟩ = some (.string { data := #[] }) ∧ Below W12.heap.size W12 w') := fun w' h => ⟨keep_cell h y10 d100, keep_cell h y10 d101, keep_cell h y10 d102, keep_cell h y1 d10, keep_cell h y1 d11, keep_cell h y1 d12, keep_cell h y8 d80, keep_cell h y8 d81, keep_cell h y8 d82, keep_cell h y11 d110, keep_cell h y11 d111, keep_cell h y11 d112, keep_cell h y12 d120, keep_cell h y12 d121, keep_cell h y12 d122, h⟩
          have MK := Lib.hid mk
          clear mk
          refine wp_region_held_drew (S := fun w' => w'.cell? ⟨x10.heap.size, 0, none⟩ = some (.int .i64 1) ∧ w'.cell? ⟨x10.heap.size, 1, none⟩ = some (.int .i64 (a)) ∧ w'.cell? ⟨x10.heap.size, 2, none⟩ = some (.string { data := #[] }) ∧ w'.cell? ⟨x2.heap.size, 0, none⟩ = some (.int .i64 1) ∧ w'.cell? ⟨x2.heap.size, 1, none⟩ = some (.int .i64 (a)) ∧ w'.cell? ⟨x2.heap.size, 2, none⟩ = some (.string { data := #[] }) ∧ w'.cell? ⟨x8.heap.size, 0, none⟩ = some (.int .i64 1) ∧ w'.cell? ⟨x8.heap.size, 1, none⟩ = some (.int .i64 (0)) ∧ w'.cell? ⟨x8.heap.size, 2, none⟩ = some (.string { data := #[] }) ∧ w'.cell? ⟨x11.heap.size, 0, none⟩ = some (.int .i64 2) ∧ w'.cell? ⟨x11.heap.size, 1, none⟩ = some (.int .i64 0) ∧ w'.cell? ⟨x11.heap.size, 2, none⟩ = some (.string { data := #[] }) ∧ w'.cell? ⟨x12.heap.size, 0, none⟩ = some (.int .i64 2) ∧ w'.cell? ⟨x12.heap.size, 1, none⟩ = some (.int .i64 1) ∧ w'.cell? ⟨x12.heap.size, 2, none⟩ = some (.string { data := #[] }) ∧ Below W12.heap.size W12 w') (by kernel_rfl) (MK.out _ (Below.drew (Below.refl _ _))) (fun hHeld => ?_)
          refine wpAnyH_take (i := 0) (v := ?_) rfl (by kernel_rfl) (by kernel_rfl) (by kernel_rfl) (fun _ _ _ h => h) (Or.inl ⟨by rfl, ?_⟩) (by assumption) ?_
          rotate_left
          · (intro w' hSw; (try dsimp only at hSw); go_simp; (try (with_reducible rfl)))
          simp only [Act.put, List.getElem_toArray, List.getElem_cons_zero, List.setIfInBounds_toArray, List.set_cons_succ, List.set_cons_zero]
          refine wpAnyH_take (i := 1) (v := ?_) rfl (by kernel_rfl) (by kernel_rfl) (by kernel_rfl) (fun _ _ _ h => h) (Or.inl ⟨by rfl, ?_⟩) (by assumption) ?_
          rotate_left
          · (intro w' hSw; (try dsimp only at hSw); go_simp; (try (with_reducible rfl)))
          simp only [Act.put, List.getElem_toArray, List.getElem_cons_succ, List.getElem_cons_zero, List.setIfInBounds_toArray, List.set_cons_succ, List.set_cons_zero]
          refine wpAnyH_take (i := 2) (v := ?_) rfl (by kernel_rfl) (by kernel_rfl) (by kernel_rfl) (fun _ _ _ h => h) (Or.inl ⟨by rfl, ?_⟩) (by assumption) ?_
          rotate_left
          · (intro w' hSw; (try dsimp only at hSw); go_simp; (try (with_reducible rfl)))
          simp only [Act.put, List.getElem_toArray, List.getElem_cons_succ, List.getElem_cons_zero, List.setIfInBounds_toArray, List.set_cons_succ, List.set_cons_zero]
          refine wpAnyH_take (i := 3) (v := ?_) rfl (by kernel_rfl) (by kernel_rfl) (by kernel_rfl) (fun _ _ _ h => h) (Or.inl ⟨by rfl, ?_⟩) (by assumption) ?_
          rotate_left
          · (intro w' hSw; (try dsimp only at hSw); go_simp; (try (with_reducible rfl)))
          simp only [Act.put, List.getElem_toArray, List.getElem_cons_succ, List.getElem_cons_zero, List.setIfInBounds_toArray, List.set_cons_succ, List.set_cons_zero]
          refine wpAnyH_take (i := 4) (v := ?_) rfl (by kernel_rfl) (by kernel_rfl) (by kernel_rfl) (fun _ _ _ h => h) (Or.inl ⟨by rfl, ?_⟩) (by assumption) ?_
          rotate_left
          · (intro w' hSw; (try dsimp only at hSw); go_simp; (try (with_reducible rfl)))
          simp only [Act.put, List.getElem_toArray, List.getElem_cons_succ, List.getElem_cons_zero, List.setIfInBounds_toArray, List.set_cons_succ, List.set_cons_zero]
          refine wpAnyH_take (i := 5) (v := ?_) rfl (by kernel_rfl) (by kernel_rfl) (by kernel_rfl) (fun _ _ _ h => h) (Or.inl ⟨by rfl, ?_⟩) (by assumption) ?_
          rotate_left
          · (intro w' hSw; (try dsimp only at hSw); go_simp; (try (with_reducible rfl)))
          simp only [Act.put, List.getElem_toArray, List.getElem_cons_succ, List.getElem_cons_zero, List.setIfInBounds_toArray, List.set_cons_succ, List.set_cons_zero]
          refine wpAnyH_take (i := 6) (v := ?_) rfl (by kernel_rfl) (by kernel_rfl) (by kernel_rfl) (fun _ _ _ h => h) (Or.inl ⟨by rfl, ?_⟩) (by assumption) ?_
          rotate_left
          · (intro w' hSw; (try dsimp only at hSw); go_simp; (try (with_reducible rfl)))
          simp only [Act.put, List.getElem_toArray, List.getElem_cons_succ, List.getElem_cons_zero, List.setIfInBounds_toArray, List.set_cons_succ, List.set_cons_zero]
          refine wpAnyH_take (i := 7) (v := ?_) rfl (by kernel_rfl) (by kernel_rfl) (by kernel_rfl) (fun _ _ _ h => h) (Or.inl ⟨by rfl, ?_⟩) (by assumption) ?_
          rotate_left
          · (intro w' hSw; (try dsimp only at hSw); go_simp; (try (with_reducible rfl)))
          simp only [Act.put, List.getElem_toArray, List.getElem_cons_succ, List.getElem_cons_zero, List.setIfInBounds_toArray, List.set_cons_succ, List.set_cons_zero]
          refine wpAnyH_take (i := 8) (v := ?_) rfl (by kernel_rfl) (by kernel_rfl) (by kernel_rfl) (fun _ _ _ h => h) (Or.inl ⟨by rfl, ?_⟩) (by assumption) ?_
          rotate_left
          · (intro w' hSw; (try dsimp only at hSw); go_simp; (try (with_reducible rfl)))
          simp only [Act.put, List.getElem_toArray, List.getElem_cons_succ, List.getElem_cons_zero, List.setIfInBounds_toArray, List.set_cons_succ, List.set_cons_zero]
          refine wpAnyH_take (i := 9) (v := ?_) rfl (by kernel_rfl) (by kernel_rfl) (by kernel_rfl) (fun _ _ _ h => h) (Or.inl ⟨by rfl, ?_⟩) (by assumption) ?_
          rotate_left
          · (intro w' hSw; (try dsimp only at hSw); go_simp; (try (with_reducible rfl)))
          simp only [Act.put, List.getElem_toArray, List.getElem_cons_succ, List.getElem_cons_zero, List.setIfInBounds_toArray, List.set_cons_succ, List.set_cons_zero]
          refine wpAnyH_take (i := 10) (v := ?_) rfl (by kernel_rfl) (by kernel_rfl) (by kernel_rfl) (fun _ _ _ h => h) (Or.inl ⟨by rfl, ?_⟩) (by assumption) ?_
          rotate_left
          · (intro w' hSw; (try dsimp only at hSw); go_simp; (try (with_reducible rfl)))
          simp only [Act.put, List.getElem_toArray, List.getElem_cons_succ, List.getElem_cons_zero, List.setIfInBounds_toArray, List.set_cons_succ, List.set_cons_zero]
          refine wpAnyH_take (i := 11) (v := ?_) rfl (by kernel_rfl) (by kernel_rfl) (by kernel_rfl) (fun _ _ _ h => h) (Or.inl ⟨by rfl, ?_⟩) (by assumption) ?_
          rotate_left
          · (intro w' hSw; (try dsimp only at hSw); go_simp; (try (with_reducible rfl)))
          simp only [Act.put, List.getElem_toArray, List.getElem_cons_succ, List.getElem_cons_zero, List.setIfInBounds_toArray, List.set_cons_succ, List.set_cons_zero]
          refine wpAnyH_take (i := 12) (v := ?_) rfl (by kernel_rfl) (by kernel_rfl) (by kernel_rfl) (fun _ _ _ h => h) (Or.inl ⟨by rfl, ?_⟩) (by assumption) ?_
          rotate_left
          · (intro w' hSw; (try dsimp only at hSw); go_simp; (try (with_reducible rfl)))
          simp only [Act.put, List.getElem_toArray, List.getElem_cons_succ, List.getElem_cons_zero, List.setIfInBounds_toArray, List.set_cons_succ, List.set_cons_zero]
          refine wpAnyH_take (i := 13) (v := ?_) rfl (by kernel_rfl) (by kernel_rfl) (by kernel_rfl) (fun _ _ _ h => h) (Or.inl ⟨by rfl, ?_⟩) (by assumption) ?_
          rotate_left
          · (intro w' hSw; (try dsimp only at hSw); go_simp; (try (with_reducible rfl)))
          simp only [Act.put, List.getElem_toArray, List.getElem_cons_succ, List.getElem_cons_zero, List.setIfInBounds_toArray, List.set_cons_succ, List.set_cons_zero]
          refine wpAnyH_take (i := 14) (v := ?_) rfl (by kernel_rfl) (by kernel_rfl) (by kernel_rfl) (fun _ _ _ h => h) (Or.inl ⟨by rfl, ?_⟩) (by assumption) ?_
          rotate_left
          · (intro w' hSw; (try dsimp only at hSw); go_simp; (try (with_reducible rfl)))
          simp only [Act.put, List.getElem_toArray, List.getElem_cons_succ, List.getElem_cons_zero, List.setIfInBounds_toArray, List.set_cons_succ, List.set_cons_zero]
          refine wpAnyH_take (i := 15) (v := ?_) rfl (by kernel_rfl) (by kernel_rfl) (by kernel_rfl) (fun _ _ _ h => h) (Or.inl ⟨by rfl, ?_⟩) (by assumption) ?_
          rotate_left
          · (intro w' hSw; (try dsimp only at hSw); go_simp; (try (with_reducible rfl)))
          simp only [Act.put, List.getElem_toArray, List.getElem_cons_succ, List.getElem_cons_zero, List.setIfInBounds_toArray, List.set_cons_succ, List.set_cons_zero]
          refine wpAnyH_take (i := 16) (v := ?_) rfl (by kernel_rfl) (by kernel_rfl) (by kernel_rfl) (fun _ _ _ h => h) (Or.inl ⟨by rfl, ?_⟩) (by assumption) ?_
          rotate_left
          · (intro w' hSw; (try dsimp only at hSw); go_simp; (try (with_reducible rfl)))
          simp only [Act.put, List.getElem_toArray, List.getElem_cons_succ, List.getElem_cons_zero, List.setIfInBounds_toArray, List.set_cons_succ, List.set_cons_zero]
          refine wpAnyH_take (i := 17) (v := ?_) rfl (by kernel_rfl) (by kernel_rfl) (by kernel_rfl) (fun _ _ _ h => h) (Or.inl ⟨by rfl, ?_⟩) (by assumption) ?_
          rotate_left
          · (intro w' hSw; (try dsimp only at hSw); go_simp; (try (with_reducible rfl)))
          simp only [Act.put, List.getElem_toArray, List.getElem_cons_succ, List.getElem_cons_zero, List.setIfInBounds_toArray, List.set_cons_succ, List.set_cons_zero]
          refine wpAnyH_take (i := 18) (v := ?_) rfl (by kernel_rfl) (by kernel_rfl) (by kernel_rfl) (fun _ _ _ h => h) (Or.inl ⟨by rfl, ?_⟩) (by assumption) ?_
          rotate_left
          · (intro w' hSw; (try dsimp only at hSw); go_simp; (try (with_reducible rfl)))
          simp only [Act.put, List.getElem_toArray, List.getElem_cons_succ, List.getElem_cons_zero, List.setIfInBounds_toArray, List.set_cons_succ, List.set_cons_zero]
          refine wpAnyH_take (i := 19) (v := ?_) rfl (by kernel_rfl) (by kernel_rfl) (by kernel_rfl) (fun _ _ _ h => h) (Or.inl ⟨by rfl, ?_⟩) (by assumption) ?_
          rotate_left
          · (intro w' hSw; (try dsimp only at hSw); go_simp; (try (with_reducible rfl)))
          simp only [Act.put, List.getElem_toArray, List.getElem_cons_succ, List.getElem_cons_zero, List.setIfInBounds_toArray, List.set_cons_succ, List.set_cons_zero]
          refine wpAnyH_take (i := 20) (v := ?_) rfl (by kernel_rfl) (by kernel_rfl) (by kernel_rfl) (fun _ _ _ h => h) (Or.inl ⟨by rfl, ?_⟩) (by assumption) ?_
          rotate_left
          · (intro w' hSw; (try dsimp only at hSw); go_simp; (try (with_reducible rfl)))
          simp only [Act.put, List.getElem_toArray, List.getElem_cons_succ, List.getElem_cons_zero, List.setIfInBounds_toArray, List.set_cons_succ, List.set_cons_zero]
          refine wpAnyH_take (i := 21) (v := ?_) rfl (by kernel_rfl) (by kernel_rfl) (by kernel_rfl) (fun _ _ _ h => h) (Or.inl ⟨by rfl, ?_⟩) (by assumption) ?_
          rotate_left
          · (intro w' hSw; (try dsimp only at hSw); go_simp; (try (with_reducible rfl)))
          simp only [Act.put, List.getElem_toArray, List.getElem_cons_succ, List.getElem_cons_zero, List.setIfInBounds_toArray, List.set_cons_succ, List.set_cons_zero]
          refine wpAnyH_take (i := 22) (v := ?_) rfl (by kernel_rfl) (by kernel_rfl) (by kernel_rfl) (fun _ _ _ h => h) (Or.inl ⟨by rfl, ?_⟩) (by assumption) ?_
          rotate_left
          · (intro w' hSw; (try dsimp only at hSw); go_simp; (try (with_reducible rfl)))
          simp only [Act.put, List.getElem_toArray, List.getElem_cons_succ, List.getElem_cons_zero, List.setIfInBounds_toArray, List.set_cons_succ, List.set_cons_zero]
          refine wpAnyH_take (i := 23) (v := ?_) rfl (by kernel_rfl) (by kernel_rfl) (by kernel_rfl) (fun _ _ _ h => h) (Or.inl ⟨by rfl, ?_⟩) (by assumption) ?_
          rotate_left
          · (intro w' hSw; (try dsimp only at hSw); go_simp; (try (with_reducible rfl)))
          simp only [Act.put, List.getElem_toArray, List.getElem_cons_succ, List.getElem_cons_zero, List.setIfInBounds_toArray, List.set_cons_succ, List.set_cons_zero]
          refine wpAnyH_take (i := 24) (v := ?_) rfl (by kernel_rfl) (by kernel_rfl) (by kernel_rfl) (fun _ _ _ h => h) (Or.inl ⟨by rfl, ?_⟩) (by assumption) ?_
          rotate_left
          · (intro w' hSw; (try dsimp only at hSw); go_simp; (try (with_reducible rfl)))
          simp only [Act.put, List.getElem_toArray, List.getElem_cons_succ, List.getElem_cons_zero, List.setIfInBounds_toArray, List.set_cons_succ, List.set_cons_zero]
          refine wpAnyH_take (i := 25) (v := ?_) rfl (by kernel_rfl) (by kernel_rfl) (by kernel_rfl) (fun _ _ _ h => h) (Or.inl ⟨by rfl, ?_⟩) (by assumption) ?_
          rotate_left
          · (intro w' hSw; (try dsimp only at hSw); go_simp; (try (with_reducible rfl)))
          simp only [Act.put, List.getElem_toArray, List.getElem_cons_succ, List.getElem_cons_zero, List.setIfInBounds_toArray, List.set_cons_succ, List.set_cons_zero]
          refine wpAnyH_take (i := 26) (v := ?_) rfl (by kernel_rfl) (by kernel_rfl) (by kernel_rfl) (fun _ _ _ h => h) (Or.inl ⟨by rfl, ?_⟩) (by assumption) ?_
          rotate_left
          · (intro w' hSw; (try dsimp only at hSw); go_simp; (try (with_reducible rfl)))
          simp only [Act.put, List.getElem_toArray, List.getElem_cons_succ, List.getElem_cons_zero, List.setIfInBounds_toArray, List.set_cons_succ, List.set_cons_zero]
          refine wpAnyH_take (i := 27) (v := undef) rfl (by kernel_rfl) (by kernel_rfl) (by kernel_rfl) (fun _ _ _ h => h) (Or.inr ⟨by rfl, rfl⟩) (by assumption) ?_
          simp only [Act.put, List.getElem_toArray, List.getElem_cons_succ, List.getElem_cons_zero, List.setIfInBounds_toArray, List.set_cons_succ, List.set_cons_zero]
          refine wpAnyH_take (i := 28) (v := undef) rfl (by kernel_rfl) (by kernel_rfl) (by kernel_rfl) (fun _ _ _ h => h) (Or.inr ⟨by rfl, rfl⟩) (by assumption) ?_
          simp only [Act.put, List.getElem_toArray, List.getElem_cons_succ, List.getElem_cons_zero, List.setIfInBounds_toArray, List.set_cons_succ, List.set_cons_zero]
          refine wpAnyH_take (i := 29) (v := undef) rfl (by kernel_rfl) (by kernel_rfl) (by kernel_rfl) (fun _ _ _ h => h) (Or.inr ⟨by rfl, rfl⟩) (by assumption) ?_
          simp only [Act.put, List.getElem_toArray, List.getElem_cons_succ, List.getElem_cons_zero, List.setIfInBounds_toArray, List.set_cons_succ, List.set_cons_zero]
          refine wpAnyH_take (i := 30) (v := undef) rfl (by kernel_rfl) (by kernel_rfl) (by kernel_rfl) (fun _ _ _ h => h) (Or.inr ⟨by rfl, rfl⟩) (by assumption) ?_
          simp only [Act.put, List.getElem_toArray, List.getElem_cons_succ, List.getElem_cons_zero, List.setIfInBounds_toArray, List.set_cons_succ, List.set_cons_zero]
          refine wpAnyH_take (i := 31) (v := undef) rfl (by kernel_rfl) (by kernel_rfl) (by kernel_rfl) (fun _ _ _ h => h) (Or.inr ⟨by rfl, rfl⟩) (by assumption) ?_
          simp only [Act.put, List.getElem_toArray, List.getElem_cons_succ, List.getElem_cons_zero, List.setIfInBounds_toArray, List.set_cons_succ, List.set_cons_zero]
          refine wpAnyH_take (i := 32) (v := undef) rfl (by kernel_rfl) (by kernel_rfl) (by kernel_rfl) (fun _ _ _ h => h) (Or.inr ⟨by rfl, rfl⟩) (by assumption) ?_
          simp only [Act.put, List.getElem_toArray, List.getElem_cons_succ, List.getElem_cons_zero, List.setIfInBounds_toArray, List.set_cons_succ, List.set_cons_zero]
          refine wpAnyH_take (i := 33) (v := ?_) rfl (by kernel_rfl) (by kernel_rfl) (by kernel_rfl) (fun _ _ _ h => h) (Or.inl ⟨by rfl, ?_⟩) (by assumption) ?_
          rotate_left
          · (intro w' hSw; (try dsimp only at hSw); go_simp; (try (with_reducible rfl)))
          simp only [Act.put, List.getElem_toArray, List.getElem_cons_succ, List.getElem_cons_zero, List.setIfInBounds_toArray, List.set_cons_succ, List.set_cons_zero]
          refine wpAnyH_take (i := 34) (v := ?_) rfl (by kernel_rfl) (by kernel_rfl) (by kernel_rfl) (fun _ _ _ h => h) (Or.inl ⟨by rfl, ?_⟩) (by assumption) ?_
          rotate_left
          · (intro w' hSw; (try dsimp only at hSw); go_simp; (try (with_reducible rfl)))
          simp only [Act.put, List.getElem_toArray, List.getElem_cons_succ, List.getElem_cons_zero, List.setIfInBounds_toArray, List.set_cons_succ, List.set_cons_zero]
          refine wpAnyH_take (i := 35) (v := ?_) rfl (by kernel_rfl) (by kernel_rfl) (by kernel_rfl) (fun _ _ _ h => h) (Or.inl ⟨by rfl, ?_⟩) (by assumption) ?_
          rotate_left
          · (intro w' hSw; (try dsimp only at hSw); go_simp; (try (with_reducible rfl)))
          simp only [Act.put, List.getElem_toArray, List.getElem_cons_succ, List.getElem_cons_zero, List.setIfInBounds_toArray, List.set_cons_succ, List.set_cons_zero]
          refine wpAnyH_take (i := 36) (v := ?_) rfl (by kernel_rfl) (by kernel_rfl) (by kernel_rfl) (fun _ _ _ h => h) (Or.inl ⟨by rfl, ?_⟩) (by assumption) ?_
          rotate_left
          · (intro w' hSw; (try dsimp only at hSw); go_simp; (try (with_reducible rfl)))
          simp only [Act.put, List.getElem_toArray, List.getElem_cons_succ, List.getElem_cons_zero, List.setIfInBounds_toArray, List.set_cons_succ, List.set_cons_zero]
          refine wpAnyH_take (i := 37) (v := ?_) rfl (by kernel_rfl) (by kernel_rfl) (by kernel_rfl) (fun _ _ _ h => h) (Or.inl ⟨by rfl, ?_⟩) (by assumption) ?_
          rotate_left
          · (intro w' hSw; (try dsimp only at hSw); go_simp; (try (with_reducible rfl)))
          simp only [Act.put, List.getElem_toArray, List.getElem_cons_succ, List.getElem_cons_zero, List.setIfInBounds_toArray, List.set_cons_succ, List.set_cons_zero]
          refine wpAnyH_take (i := 38) (v := ?_) rfl (by kernel_rfl) (by kernel_rfl) (by kernel_rfl) (fun _ _ _ h => h) (Or.inl ⟨by rfl, ?_⟩) (by assumption) ?_
          rotate_left
          · (intro w' hSw; (try dsimp only at hSw); go_simp; (try (with_reducible rfl)))
          simp only [Act.put, List.getElem_toArray, List.getElem_cons_succ, List.getElem_cons_zero, List.setIfInBounds_toArray, List.set_cons_succ, List.set_cons_zero]
          refine wpAnyH_take (i := 39) (v := ?_) rfl (by kernel_rfl) (by kernel_rfl) (by kernel_rfl) (fun _ _ _ h => h) (Or.inl ⟨by rfl, ?_⟩) (by assumption) ?_
          rotate_left
          · (intro w' hSw; (try dsimp only at hSw); go_simp; (try (with_reducible rfl)))
          simp only [Act.put, List.getElem_toArray, List.getElem_cons_succ, List.getElem_cons_zero, List.setIfInBounds_toArray, List.set_cons_succ, List.set_cons_zero]
          refine wpAnyH_take (i := 40) (v := ?_) rfl (by kernel_rfl) (by kernel_rfl) (by kernel_rfl) (fun _ _ _ h => h) (Or.inl ⟨by rfl, ?_⟩) (by assumption) ?_
          rotate_left
          · (intro w' hSw; (try dsimp only at hSw); go_simp; (try (with_reducible rfl)))
          simp only [Act.put, List.getElem_toArray, List.getElem_cons_succ, List.getElem_cons_zero, List.setIfInBounds_toArray, List.set_cons_succ, List.set_cons_zero]
          refine wpAnyH_take (i := 41) (v := ?_) rfl (by kernel_rfl) (by kernel_rfl) (by kernel_rfl) (fun _ _ _ h => h) (Or.inl ⟨by rfl, ?_⟩) (by assumption) ?_
          rotate_left
          · (intro w' hSw; (try dsimp only at hSw); go_simp; (try (with_reducible rfl)))
          simp only [Act.put, List.getElem_toArray, List.getElem_cons_succ, List.getElem_cons_zero, List.setIfInBounds_toArray, List.set_cons_succ, List.set_cons_zero]
          refine wpAnyH_take (i := 42) (v := ?_) rfl (by kernel_rfl) (by kernel_rfl) (by kernel_rfl) (fun _ _ _ h => h) (Or.inl ⟨by rfl, ?_⟩) (by assumption) ?_
          rotate_left
          · (intro w' hSw; (try dsimp only at hSw); go_simp; (try (with_reducible rfl)))
          simp only [Act.put, List.getElem_toArray, List.getElem_cons_succ, List.getElem_cons_zero, List.setIfInBounds_toArray, List.set_cons_succ, List.set_cons_zero]
          refine wpAnyH_take (i := 43) (v := ?_) rfl (by kernel_rfl) (by kernel_rfl) (by kernel_rfl) (fun _ _ _ h => h) (Or.inl ⟨by rfl, ?_⟩) (by assumption) ?_
          rotate_left
          · (intro w' hSw; (try dsimp only at hSw); go_simp; (try (with_reducible rfl)))
          simp only [Act.put, List.getElem_toArray, List.getElem_cons_succ, List.getElem_cons_zero, List.setIfInBounds_toArray, List.set_cons_succ, List.set_cons_zero]
          refine wpAnyH_take (i := 44) (v := ?_) rfl (by kernel_rfl) (by kernel_rfl) (by kernel_rfl) (fun _ _ _ h => h) (Or.inl ⟨by rfl, ?_⟩) (by assumption) ?_
          rotate_left
          · (intro w' hSw; (try dsimp only at hSw); go_simp; (try (with_reducible rfl)))
          simp only [Act.put, List.getElem_toArray, List.getElem_cons_succ, List.getElem_cons_zero, List.setIfInBounds_toArray, List.set_cons_succ, List.set_cons_zero]
          refine wpAnyH_take (i := 45) (v := ?_) rfl (by kernel_rfl) (by kernel_rfl) (by kernel_rfl) (fun _ _ _ h => h) (Or.inl ⟨by rfl, ?_⟩) (by assumption) ?_
          rotate_left
          · (intro w' hSw; (try dsimp only at hSw); go_simp; (try (with_reducible rfl)))
          simp only [Act.put, List.getElem_toArray, List.getElem_cons_succ, List.getElem_cons_zero, List.setIfInBounds_toArray, List.set_cons_succ, List.set_cons_zero]
          refine wpAnyH_ready (rs := [46]) (by kernel_rfl) (by simp) ?_
          refine AllReadyH.cons rfl (fun K hK => ?_) AllReadyH.nil
          go_simp
          (go_at_call 23; refine (sign_not1 _).mono ?_; rintro e w4 ⟨rfl, hb4⟩; (try go_simp))
          refine hK.out _ _ ?_ (fun hHeld => ?_)
          · (try dsimp only); ((try go_split_ands); refine MK.out _ ?_; repeat (first | assumption | exact Below.refl _ _ | apply Below.drew | apply kb_alloc | refine keep_below ?_ hb4))
          clear hK K
          refine wpAnyH_take (i := 47) (v := ?_) rfl (by kernel_rfl) (by kernel_rfl) (by kernel_rfl) (fun _ _ _ h => h) (Or.inl ⟨by rfl, ?_⟩) (by assumption) ?_
          rotate_left
          · (intro w' hSw; (try dsimp only at hSw); go_simp; (try (with_reducible rfl)))
          simp only [Act.put, List.getElem_toArray, List.getElem_cons_succ, List.getElem_cons_zero, List.setIfInBounds_toArray, List.set_cons_succ, List.set_cons_zero]
          refine wpAnyH_take (i := 48) (v := ?_) rfl (by kernel_rfl) (by kernel_rfl) (by kernel_rfl) (fun _ _ _ h => h) (Or.inl ⟨by rfl, ?_⟩) (by assumption) ?_
          rotate_left
          · (intro w' hSw; (try dsimp only at hSw); go_simp; (try (with_reducible rfl)))
          simp only [Act.put, List.getElem_toArray, List.getElem_cons_succ, List.getElem_cons_zero, List.setIfInBounds_toArray, List.set_cons_succ, List.set_cons_zero]
          refine wpAnyH_take (i := 49) (v := ?_) rfl (by kernel_rfl) (by kernel_rfl) (by kernel_rfl) (fun _ _ _ h => h) (Or.inl ⟨by rfl, ?_⟩) (by assumption) ?_
          rotate_left
          · (intro w' hSw; (try dsimp only at hSw); go_simp; (try (with_reducible rfl)))
          simp only [Act.put, List.getElem_toArray, List.getElem_cons_succ, List.getElem_cons_zero, List.setIfInBounds_toArray, List.set_cons_succ, List.set_cons_zero]
          refine wpAnyH_take (i := 50) (v := ?_) rfl (by kernel_rfl) (by kernel_rfl) (by kernel_rfl) (fun _ _ _ h => h) (Or.inl ⟨by rfl, ?_⟩) (by assumption) ?_
          rotate_left
          · (intro w' hSw; (try dsimp only at hSw); go_simp; (try (with_reducible rfl)))
          simp only [Act.put, List.getElem_toArray, List.getElem_cons_succ, List.getElem_cons_zero, List.setIfInBounds_toArray, List.set_cons_succ, List.set_cons_zero]
          refine wpAnyH_take (i := 51) (v := ?_) rfl (by kernel_rfl) (by kernel_rfl) (by kernel_rfl) (fun _ _ _ h => h) (Or.inl ⟨by rfl, ?_⟩) (by assumption) ?_
          rotate_left
          · (intro w' hSw; (try dsimp only at hSw); go_simp; (try (with_reducible rfl)))
          simp only [Act.put, List.getElem_toArray, List.getElem_cons_succ, List.getElem_cons_zero, List.setIfInBounds_toArray, List.set_cons_succ, List.set_cons_zero]
          refine wpAnyH_take (i := 52) (v := ?_) rfl (by kernel_rfl) (by kernel_rfl) (by kernel_rfl) (fun _ _ _ h => h) (Or.inl ⟨by rfl, ?_⟩) (by assumption) ?_
          rotate_left
          · (intro w' hSw; (try dsimp only at hSw); go_simp; (try (with_reducible rfl)))
          simp only [Act.put, List.getElem_toArray, List.getElem_cons_succ, List.getElem_cons_zero, List.setIfInBounds_toArray, List.set_cons_succ, List.set_cons_zero]
          refine wpAnyH_take (i := 53) (v := ?_) rfl (by kernel_rfl) (by kernel_rfl) (by kernel_rfl) (fun _ _ _ h => h) (Or.inl ⟨by rfl, ?_⟩) (by assumption) ?_
          rotate_left
          · (intro w' hSw; (try dsimp only at hSw); go_simp; (try (with_reducible rfl)))
          simp only [Act.put, List.getElem_toArray, List.getElem_cons_succ, List.getElem_cons_zero, List.setIfInBounds_toArray, List.set_cons_succ, List.set_cons_zero]
          refine wpAnyH_take (i := 54) (v := ?_) rfl (by kernel_rfl) (by kernel_rfl) (by kernel_rfl) (fun _ _ _ h => h) (Or.inl ⟨by rfl, ?_⟩) (by assumption) ?_
          rotate_left
          · (intro w' hSw; (try dsimp only at hSw); go_simp; (try (with_reducible rfl)))
          simp only [Act.put, List.getElem_toArray, List.getElem_cons_succ, List.getElem_cons_zero, List.setIfInBounds_toArray, List.set_cons_succ, List.set_cons_zero]
          refine wpAnyH_take (i := 55) (v := ?_) rfl (by kernel_rfl) (by kernel_rfl) (by kernel_rfl) (fun _ _ _ h => h) (Or.inl ⟨by rfl, ?_⟩) (by assumption) ?_
          rotate_left
          · (intro w' hSw; (try dsimp only at hSw); go_simp; (try (with_reducible rfl)))
          simp only [Act.put, List.getElem_toArray, List.getElem_cons_succ, List.getElem_cons_zero, List.setIfInBounds_toArray, List.set_cons_succ, List.set_cons_zero]
          refine wpAnyH_take (i := 56) (v := ?_) rfl (by kernel_rfl) (by kernel_rfl) (by kernel_rfl) (fun _ _ _ h => h) (Or.inl ⟨by rfl, ?_⟩) (by assumption) ?_
          rotate_left
          · (intro w' hSw; (try dsimp only at hSw); go_simp; (try (with_reducible rfl)))
          simp only [Act.put, List.getElem_toArray, List.getElem_cons_succ, List.getElem_cons_zero, List.setIfInBounds_toArray, List.set_cons_succ, List.set_cons_zero]
          refine wpAnyH_take (i := 57) (v := ?_) rfl (by kernel_rfl) (by kernel_rfl) (by kernel_rfl) (fun _ _ _ h => h) (Or.inl ⟨by rfl, ?_⟩) (by assumption) ?_
          rotate_left
          · (intro w' hSw; (try dsimp only at hSw); go_simp; (try (with_reducible rfl)))
          simp only [Act.put, List.getElem_toArray, List.getElem_cons_succ, List.getElem_cons_zero, List.setIfInBounds_toArray, List.set_cons_succ, List.set_cons_zero]
          refine wpAnyH_take (i := 58) (v := ?_) rfl (by kernel_rfl) (by kernel_rfl) (by kernel_rfl) (fun _ _ _ h => h) (Or.inl ⟨by rfl, ?_⟩) (by assumption) ?_
          rotate_left
          · (intro w' hSw; (try dsimp only at hSw); go_simp; (try (with_reducible rfl)))
          simp only [Act.put, List.getElem_toArray, List.getElem_cons_succ, List.getElem_cons_zero, List.setIfInBounds_toArray, List.set_cons_succ, List.set_cons_zero]
          refine wpAnyH_done (by kernel_rfl) ?_ _
          have hb : Below W12.heap.size W12 w4 := (by assumption : w4.cell? ⟨x10.heap.size, 0, none⟩ = some (.int .i64 1) ∧ w4.cell? ⟨x10.heap.size, 1, none⟩ = some (.int .i64 (a)) ∧ w4.cell? ⟨x10.heap.size, 2, none⟩ = some (.string { data := #[] }) ∧ w4.cell? ⟨x2.heap.size, 0, none⟩ = some (.int .i64 1) ∧ w4.cell? ⟨x2.heap.size, 1, none⟩ = some (.int .i64 (a)) ∧ w4.cell? ⟨x2.heap.size, 2, none⟩ = some (.string { data := #[] }) ∧ w4.cell? ⟨x8.heap.size, 0, none⟩ = some (.int .i64 1) ∧ w4.cell? ⟨x8.heap.size, 1, none⟩ = some (.int .i64 (0)) ∧ w4.cell? ⟨x8.heap.size, 2, none⟩ = some (.string { data := #[] }) ∧ w4.cell? ⟨x11.heap.size, 0, none⟩ = some (.int .i64 2) ∧ w4.cell? ⟨x11.heap.size, 1, none⟩ = some (.int .i64 0) ∧ w4.cell? ⟨x11.heap.size, 2, none⟩ = some (.string { data := #[] }) ∧ w4.cell? ⟨x12.heap.size, 0, none⟩ = some (.int .i64 2) ∧ w4.cell? ⟨x12.heap.size, 1, none⟩ = some (.int .i64 1) ∧ w4.cell? ⟨x12.heap.size, 2, none⟩ = some (.string { data := #[] }) ∧ Below W12.heap.size W12 w4).2.2.2.2.2.2.2.2.2.2.2.2.2.2.2
          replace d10 := keep_cell hb y1 d10
          replace d11 := keep_cell hb y1 d11
          replace d12 := keep_cell hb y1 d12
          replace y1 := Nat.lt_of_lt_of_le y1 hb.size
          replace d80 := keep_cell hb y8 d80
          replace d81 := keep_cell hb y8 d81
          replace d82 := keep_cell hb y8 d82
          replace y8 := Nat.lt_of_lt_of_le y8 hb.size
          replace d100 := keep_cell hb y10 d100
          replace d101 := keep_cell hb y10 d101
          replace d102 := keep_cell hb y10 d102
          replace y10 := Nat.lt_of_lt_of_le y10 hb.size
          replace d110 := keep_cell hb y11 d110
          replace d111 := keep_cell hb y11 d111
          replace d112 := keep_cell hb y11 d112
          replace y11 := Nat.lt_of_lt_of_le y11 hb.size
          replace d120 := keep_cell hb y12 d120
          replace d121 := keep_cell hb y12 d121
          replace d122 := keep_cell hb y12 d122
          replace y12 := Nat.lt_of_lt_of_le y12 hb.size
          replace B := keep_below B hb
          clear hb
          go_wp2
          go_ret
          exact ⟨rfl, B⟩
      · by_cases hl : a < b
        · skip
          have f1 : bN (decide (a < b)) = 1 := by simp [bN, hl]
          have f2 : bN (decide (b ≤ a)) = 0 := by simp [bN]; omega
          rw [f1] at d111
          rw [f2] at d121
          clear f1 f2
          have c4 : (a.tmod b == 0) = false := by simpa using c1
          have c5 : decide (a.tmod b < 0) = true := by simpa using c3
          have c6 : decide (a < 0) = true := by simpa using c2
          clear d20 d21 d22 y2
          clear d30 d31 d32 y3
          clear d40 d41 d42 y4
          clear d50 d51 d52 y5
          clear d60 d61 d62 y6
          clear d70 d71 d72 y7
          clear d90 d91 d92 y9
          have mk : ∀ w' : World, Below W12.heap.size W12 w' → (w'.cell? ⟨x10.heap.size, 0, none⟩ = some (.int .i64 1) ∧ w'.cell? ⟨x10.heap.size, 1, none⟩ = some (.int .i64 (a)) ∧ w'.cell? ⟨x10.heap.size, 2, none⟩ = some (.string { data := #[] }) ∧ w'.cell? ⟨x2.heap.size, 0, none⟩ = some (.int .i64 1) ∧ w'.cell? ⟨x2.heap.size, 1, none⟩ = some (.int .i64 (a)) ∧ w'.cell? ⟨x2.heap.size, 2, none⟩ = some (.string { data := #[] }) ∧ w'.cell? ⟨x8.heap.size, 0, none⟩ = some (.int .i64 1) ∧ w'.cell? ⟨x8.heap.size, 1, none⟩ = some (.int .i64 (a.tmod b)) ∧ w'.cell? ⟨x8.heap.size, 2, none⟩ = some (.string { data := #[] }) ∧ w'.cell? ⟨x11.heap.size, 0, none⟩ = some (.int .i64 2) ∧ w'.cell? ⟨x11.heap.size, 1, none⟩ = some (.int .i64 1) ∧ w'.cell? ⟨x11.heap.size, 2, none⟩ = some (.string { data := #[] }) ∧ w'.cell? ⟨x12.heap.size, 0, none⟩ = some (.int .i64 2) ∧ w'.cell? ⟨x12.heap.size, 1, none⟩ = some (.int .i64 0) ∧ w'.cell? ⟨x12.heap.size, 2, none⟩ = some (.string { data := #[] }) ∧ Below W12.heap.size W12 w') := fun w' h => ⟨keep_cell h y10 d100, keep_cell h y10 d101, keep_cell h y10 d102, keep_cell h y1 d10, keep_cell h y1 d11, keep_cell h y1 d12, keep_cell h y8 d80, keep_cell h y8 d81, keep_cell h y8 d82, keep_cell h y11 d110, keep_cell h y11 d111, keep_cell h y11 d112, keep_cell h y12 d120, keep_cell h y12 d121, keep_cell h y12 d122, h⟩
          have MK := Lib.hid mk
          clear mk
          refine wp_region_held_drew (S := fun w' => w'.cell? ⟨x10.heap.size, 0, none⟩ = some (.int .i64 1) ∧ w'.cell? ⟨x10.heap.size, 1, none⟩ = some (.int .i64 (a)) ∧ w'.cell? ⟨x10.heap.size, 2, none⟩ = some (.string { data := #[] }) ∧ w'.cell? ⟨x2.heap.size, 0, none⟩ = some (.int .i64 1) ∧ w'.cell? ⟨x2.heap.size, 1, none⟩ = some (.int .i64 (a)) ∧ w'.cell? ⟨x2.heap.size, 2, none⟩ = some (.string { data := #[] }) ∧ w'.cell? ⟨x8.heap.size, 0, none⟩ = some (.int .i64 1) ∧ w'.cell? ⟨x8.heap.size, 1, none⟩ = some (.int .i64 (a.tmod b)) ∧ w'.cell? ⟨x8.heap.size, 2, none⟩ = some (.string { data := #[] }) ∧ w'.cell? ⟨x11.heap.size, 0, none⟩ = some (.int .i64 2) ∧ w'.cell? ⟨x11.heap.size, 1, none⟩ = some (.int .i64 1) ∧ w'.cell? ⟨x11.heap.size, 2, none⟩ = some (.string { data := #[] }) ∧ w'.cell? ⟨x12.heap.size, 0, none⟩ = some (.int .i64 2) ∧ w'.cell? ⟨x12.heap.size, 1, none⟩ = some (.int .i64 0) ∧ w'.cell? ⟨x12.heap.size, 2, none⟩ = some (.string { data := #[] }) ∧ Below W12.heap.size W12 w') (by kernel_rfl) (MK.out _ (Below.drew (Below.refl _ _))) (fun hHeld => ?_)
          refine wpAnyH_take (i := 0) (v := ?_) rfl (by kernel_rfl) (by kernel_rfl) (by kernel_rfl) (fun _ _ _ h => h) (Or.inl ⟨by rfl, ?_⟩) (by assumption) ?_
          rotate_left
          · (intro w' hSw; (try dsimp only at hSw); go_simp; (try (with_reducible rfl)))
          simp only [Act.put, List.getElem_toArray, List.getElem_cons_zero, List.setIfInBounds_toArray, List.set_cons_succ, List.set_cons_zero]
          refine wpAnyH_take (i := 1) (v := ?_) rfl (by kernel_rfl) (by kernel_rfl) (by kernel_rfl) (fun _ _ _ h => h) (Or.inl ⟨by rfl, ?_⟩) (by assumption) ?_
          rotate_left
          · (intro w' hSw; (try dsimp only at hSw); go_simp; (try (with_reducible rfl)))
          simp only [Act.put, List.getElem_toArray, List.getElem_cons_succ, List.getElem_cons_zero, List.setIfInBounds_toArray, List.set_cons_succ, List.set_cons_zero]
          refine wpAnyH_take (i := 2) (v := ?_) rfl (by kernel_rfl) (by kernel_rfl) (by kernel_rfl) (fun _ _ _ h => h) (Or.inl ⟨by rfl, ?_⟩) (by assumption) ?_
          rotate_left
          · (intro w' hSw; (try dsimp only at hSw); go_simp; (try (with_reducible rfl)))
          simp only [Act.put, List.getElem_toArray, List.getElem_cons_succ, List.getElem_cons_zero, List.setIfInBounds_toArray, List.set_cons_succ, List.set_cons_zero]
          refine wpAnyH_take (i := 3) (v := ?_) rfl (by kernel_rfl) (by kernel_rfl) (by kernel_rfl) (fun _ _ _ h => h) (Or.inl ⟨by rfl, ?_⟩) (by assumption) ?_
          rotate_left
          · (intro w' hSw; (try dsimp only at hSw); go_simp; (try (with_reducible rfl)))
          simp only [Act.put, List.getElem_toArray, List.getElem_cons_succ, List.getElem_cons_zero, List.setIfInBounds_toArray, List.set_cons_succ, List.set_cons_zero]
          refine wpAnyH_take (i := 4) (v := ?_) rfl (by kernel_rfl) (by kernel_rfl) (by kernel_rfl) (fun _ _ _ h => h) (Or.inl ⟨by rfl, ?_⟩) (by assumption) ?_
          rotate_left
          · (intro w' hSw; (try dsimp only at hSw); go_simp; (try (with_reducible rfl)))
          simp only [Act.put, List.getElem_toArray, List.getElem_cons_succ, List.getElem_cons_zero, List.setIfInBounds_toArray, List.set_cons_succ, List.set_cons_zero]
          refine wpAnyH_take (i := 5) (v := ?_) rfl (by kernel_rfl) (by kernel_rfl) (by kernel_rfl) (fun _ _ _ h => h) (Or.inl ⟨by rfl, ?_⟩) (by assumption) ?_
          rotate_left
          · (intro w' hSw; (try dsimp only at hSw); go_simp; (try (with_reducible rfl)))
          simp only [Act.put, List.getElem_toArray, List.getElem_cons_succ, List.getElem_cons_zero, List.setIfInBounds_toArray, List.set_cons_succ, List.set_cons_zero]
          refine wpAnyH_take (i := 6) (v := ?_) rfl (by kernel_rfl) (by kernel_rfl) (by kernel_rfl) (fun _ _ _ h => h) (Or.inl ⟨by rfl, ?_⟩) (by assumption) ?_
          rotate_left
          · (intro w' hSw; (try dsimp only at hSw); go_simp; (try (with_reducible rfl)))
          simp only [Act.put, List.getElem_toArray, List.getElem_cons_succ, List.getElem_cons_zero, List.setIfInBounds_toArray, List.set_cons_succ, List.set_cons_zero]
          refine wpAnyH_take (i := 7) (v := ?_) rfl (by kernel_rfl) (by kernel_rfl) (by kernel_rfl) (fun _ _ _ h => h) (Or.inl ⟨by rfl, ?_⟩) (by assumption) ?_
          rotate_left
          · (intro w' hSw; (try dsimp only at hSw); go_simp; (try (with_reducible rfl)))
          simp only [Act.put, List.getElem_toArray, List.getElem_cons_succ, List.getElem_cons_zero, List.setIfInBounds_toArray, List.set_cons_succ, List.set_cons_zero]
          refine wpAnyH_take (i := 8) (v := ?_) rfl (by kernel_rfl) (by kernel_rfl) (by kernel_rfl) (fun _ _ _ h => h) (Or.inl ⟨by rfl, ?_⟩) (by assumption) ?_
          rotate_left
          · (intro w' hSw; (try dsimp only at hSw); go_simp; (try (with_reducible rfl)))
          simp only [Act.put, List.getElem_toArray, List.getElem_cons_succ, List.getElem_cons_zero, List.setIfInBounds_toArray, List.set_cons_succ, List.set_cons_zero]
          refine wpAnyH_take (i := 9) (v := ?_) rfl (by kernel_rfl) (by kernel_rfl) (by kernel_rfl) (fun _ _ _ h => h) (Or.inl ⟨by rfl, ?_⟩) (by assumption) ?_
          rotate_left
          · (intro w' hSw; (try dsimp only at hSw); go_simp; (try (with_reducible rfl)))
          simp only [Act.put, List.getElem_toArray, List.getElem_cons_succ, List.getElem_cons_zero, List.setIfInBounds_toArray, List.set_cons_succ, List.set_cons_zero]
          refine wpAnyH_take (i := 10) (v := ?_) rfl (by kernel_rfl) (by kernel_rfl) (by kernel_rfl) (fun _ _ _ h => h) (Or.inl ⟨by rfl, ?_⟩) (by assumption) ?_
          rotate_left
          · (intro w' hSw; (try dsimp only at hSw); go_simp; (try (with_reducible rfl)))
          simp only [Act.put, List.getElem_toArray, List.getElem_cons_succ, List.getElem_cons_zero, List.setIfInBounds_toArray, List.set_cons_succ, List.set_cons_zero]
          refine wpAnyH_take (i := 11) (v := ?_) rfl (by kernel_rfl) (by kernel_rfl) (by kernel_rfl) (fun _ _ _ h => h) (Or.inl ⟨by rfl, ?_⟩) (by assumption) ?_
          rotate_left
          · (intro w' hSw; (try dsimp only at hSw); go_simp; (try (with_reducible rfl)))
          simp only [Act.put, List.getElem_toArray, List.getElem_cons_succ, List.getElem_cons_zero, List.setIfInBounds_toArray, List.set_cons_succ, List.set_cons_zero]
          refine wpAnyH_take (i := 12) (v := ?_) rfl (by kernel_rfl) (by kernel_rfl) (by kernel_rfl) (fun _ _ _ h => h) (Or.inl ⟨by rfl, ?_⟩) (by assumption) ?_
          rotate_left
          · (intro w' hSw; (try dsimp only at hSw); go_simp; (try (with_reducible rfl)))
          simp only [Act.put, List.getElem_toArray, List.getElem_cons_succ, List.getElem_cons_zero, List.setIfInBounds_toArray, List.set_cons_succ, List.set_cons_zero]
          refine wpAnyH_take (i := 13) (v := ?_) rfl (by kernel_rfl) (by kernel_rfl) (by kernel_rfl) (fun _ _ _ h => h) (Or.inl ⟨by rfl, ?_⟩) (by assumption) ?_
          rotate_left
          · (intro w' hSw; (try dsimp only at hSw); go_simp; (try (with_reducible rfl)))
          simp only [Act.put, List.getElem_toArray, List.getElem_cons_succ, List.getElem_cons_zero, List.setIfInBounds_toArray, List.set_cons_succ, List.set_cons_zero]
          refine wpAnyH_take (i := 14) (v := ?_) rfl (by kernel_rfl) (by kernel_rfl) (by kernel_rfl) (fun _ _ _ h => h) (Or.inl ⟨by rfl, ?_⟩) (by assumption) ?_
          rotate_left
          · (intro w' hSw; (try dsimp only at hSw); go_simp; (try (with_reducible rfl)))
          simp only [Act.put, List.getElem_toArray, List.getElem_cons_succ, List.getElem_cons_zero, List.setIfInBounds_toArray, List.set_cons_succ, List.set_cons_zero]
          refine wpAnyH_take (i := 15) (v := ?_) rfl (by kernel_rfl) (by kernel_rfl) (by kernel_rfl) (fun _ _ _ h => h) (Or.inl ⟨by rfl, ?_⟩) (by assumption) ?_
          rotate_left
          · (intro w' hSw; (try dsimp only at hSw); go_simp; (try (with_reducible rfl)))
          simp only [Act.put, List.getElem_toArray, List.getElem_cons_succ, List.getElem_cons_zero, List.setIfInBounds_toArray, List.set_cons_succ, List.set_cons_zero]
          refine wpAnyH_take (i := 16) (v := ?_) rfl (by kernel_rfl) (by kernel_rfl) (by kernel_rfl) (fun _ _ _ h => h) (Or.inl ⟨by rfl, ?_⟩) (by assumption) ?_
          rotate_left
          · (intro w' hSw; (try dsimp only at hSw); go_simp; (try (with_reducible rfl)))
          simp only [Act.put, List.getElem_toArray, List.getElem_cons_succ, List.getElem_cons_zero, List.setIfInBounds_toArray, List.set_cons_succ, List.set_cons_zero]
          refine wpAnyH_take (i := 17) (v := ?_) rfl (by kernel_rfl) (by kernel_rfl) (by kernel_rfl) (fun _ _ _ h => h) (Or.inl ⟨by rfl, ?_⟩) (by assumption) ?_
          rotate_left
          · (intro w' hSw; (try dsimp only at hSw); go_simp; (try (with_reducible rfl)))
          simp only [Act.put, List.getElem_toArray, List.getElem_cons_succ, List.getElem_cons_zero, List.setIfInBounds_toArray, List.set_cons_succ, List.set_cons_zero]
          refine wpAnyH_take (i := 18) (v := ?_) rfl (by kernel_rfl) (by kernel_rfl) (by kernel_rfl) (fun _ _ _ h => h) (Or.inl ⟨by rfl, ?_⟩) (by assumption) ?_
          rotate_left
          · (intro w' hSw; (try dsimp only at hSw); go_simp; (try (with_reducible rfl)))
          simp only [Act.put, List.getElem_toArray, List.getElem_cons_succ, List.getElem_cons_zero, List.setIfInBounds_toArray, List.set_cons_succ, List.set_cons_zero]
          refine wpAnyH_take (i := 19) (v := ?_) rfl (by kernel_rfl) (by kernel_rfl) (by kernel_rfl) (fun _ _ _ h => h) (Or.inl ⟨by rfl, ?_⟩) (by assumption) ?_
          rotate_left
          · (intro w' hSw; (try dsimp only at hSw); go_simp; (try (with_reducible rfl)))
          simp only [Act.put, List.getElem_toArray, List.getElem_cons_succ, List.getElem_cons_zero, List.setIfInBounds_toArray, List.set_cons_succ, List.set_cons_zero]
          refine wpAnyH_take (i := 20) (v := ?_) rfl (by kernel_rfl) (by kernel_rfl) (by kernel_rfl) (fun _ _ _ h => h) (Or.inl ⟨by rfl, ?_⟩) (by assumption) ?_
          rotate_left
          · (intro w' hSw; (try dsimp only at hSw); go_simp; (try (with_reducible rfl)))
          simp only [Act.put, List.getElem_toArray, List.getElem_cons_succ, List.getElem_cons_zero, List.setIfInBounds_toArray, List.set_cons_succ, List.set_cons_zero]
          refine wpAnyH_take (i := 21) (v := ?_) rfl (by kernel_rfl) (by kernel_rfl) (by kernel_rfl) (fun _ _ _ h => h) (Or.inl ⟨by rfl, ?_⟩) (by assumption) ?_
          rotate_left
          · (intro w' hSw; (try dsimp only at hSw); go_simp; (try (with_reducible rfl)))
          simp only [Act.put, List.getElem_toArray, List.getElem_cons_succ, List.getElem_cons_zero, List.setIfInBounds_toArray, List.set_cons_succ, List.set_cons_zero]
          refine wpAnyH_take (i := 22) (v := ?_) rfl (by kernel_rfl) (by kernel_rfl) (by kernel_rfl) (fun _ _ _ h => h) (Or.inl ⟨by rfl, ?_⟩) (by assumption) ?_
          rotate_left
          · (intro w' hSw; (try dsimp only at hSw); go_simp; (try (with_reducible rfl)))
          simp only [Act.put, List.getElem_toArray, List.getElem_cons_succ, List.getElem_cons_zero, List.setIfInBounds_toArray, List.set_cons_succ, List.set_cons_zero]
          refine wpAnyH_take (i := 23) (v := ?_) rfl (by kernel_rfl) (by kernel_rfl) (by kernel_rfl) (fun _ _ _ h => h) (Or.inl ⟨by rfl, ?_⟩) (by assumption) ?_
          rotate_left
          · (intro w' hSw; (try dsimp only at hSw); go_simp; (try (with_reducible rfl)))
          simp only [Act.put, List.getElem_toArray, List.getElem_cons_succ, List.getElem_cons_zero, List.setIfInBounds_toArray, List.set_cons_succ, List.set_cons_zero]
          refine wpAnyH_take (i := 24) (v := ?_) rfl (by kernel_rfl) (by kernel_rfl) (by kernel_rfl) (fun _ _ _ h => h) (Or.inl ⟨by rfl, ?_⟩) (by assumption) ?_
          rotate_left
          · (intro w' hSw; (try dsimp only at hSw); go_simp; (try (with_reducible rfl)))
          simp only [Act.put, List.getElem_toArray, List.getElem_cons_succ, List.getElem_cons_zero, List.setIfInBounds_toArray, List.set_cons_succ, List.set_cons_zero]
          refine wpAnyH_take (i := 25) (v := ?_) rfl (by kernel_rfl) (by kernel_rfl) (by kernel_rfl) (fun _ _ _ h => h) (Or.inl ⟨by rfl, ?_⟩) (by assumption) ?_
          rotate_left
          · (intro w' hSw; (try dsimp only at hSw); go_simp; (try (with_reducible rfl)))
          simp only [Act.put, List.getElem_toArray, List.getElem_cons_succ, List.getElem_cons_zero, List.setIfInBounds_toArray, List.set_cons_succ, List.set_cons_zero]
          refine wpAnyH_take (i := 26) (v := ?_) rfl (by kernel_rfl) (by kernel_rfl) (by kernel_rfl) (fun _ _ _ h => h) (Or.inl ⟨by rfl, ?_⟩) (by assumption) ?_
          rotate_left
          · (intro w' hSw; (try dsimp only at hSw); go_simp; (try (with_reducible rfl)))
          simp only [Act.put, List.getElem_toArray, List.getElem_cons_succ, List.getElem_cons_zero, List.setIfInBounds_toArray, List.set_cons_succ, List.set_cons_zero]
          refine wpAnyH_take (i := 27) (v := ?_) rfl (by kernel_rfl) (by kernel_rfl) (by kernel_rfl) (fun _ _ _ h => h) (Or.inl ⟨by rfl, ?_⟩) (by assumption) ?_
          rotate_left
          · (intro w' hSw; (try dsimp only at hSw); go_simp; (try (with_reducible rfl)))
          simp only [Act.put, List.getElem_toArray, List.getElem_cons_succ, List.getElem_cons_zero, List.setIfInBounds_toArray, List.set_cons_succ, List.set_cons_zero]
          refine wpAnyH_take (i := 28) (v := ?_) rfl (by kernel_rfl) (by kernel_rfl) (by kernel_rfl) (fun _ _ _ h => h) (Or.inl ⟨by rfl, ?_⟩) (by assumption) ?_
          rotate_left
          · (intro w' hSw; (try dsimp only at hSw); go_simp; (try (with_reducible rfl)))
          simp only [Act.put, List.getElem_toArray, List.getElem_cons_succ, List.getElem_cons_zero, List.setIfInBounds_toArray, List.set_cons_succ, List.set_cons_zero]
          refine wpAnyH_take (i := 29) (v := ?_) rfl (by kernel_rfl) (by kernel_rfl) (by kernel_rfl) (fun _ _ _ h => h) (Or.inl ⟨by rfl, ?_⟩) (by assumption) ?_
          rotate_left
          · (intro w' hSw; (try dsimp only at hSw); go_simp; (try (with_reducible rfl)))
          simp only [Act.put, List.getElem_toArray, List.getElem_cons_succ, List.getElem_cons_zero, List.setIfInBounds_toArray, List.set_cons_succ, List.set_cons_zero]
          refine wpAnyH_take (i := 30) (v := ?_) rfl (by kernel_rfl) (by kernel_rfl) (by kernel_rfl) (fun _ _ _ h => h) (Or.inl ⟨by rfl, ?_⟩) (by assumption) ?_
          rotate_left
          · (intro w' hSw; (try dsimp only at hSw); go_simp; (try (with_reducible rfl)))
          simp only [Act.put, List.getElem_toArray, List.getElem_cons_succ, List.getElem_cons_zero, List.setIfInBounds_toArray, List.set_cons_succ, List.set_cons_zero]
          refine wpAnyH_take (i := 31) (v := ?_) rfl (by kernel_rfl) (by kernel_rfl) (by kernel_rfl) (fun _ _ _ h => h) (Or.inl ⟨by rfl, ?_⟩) (by assumption) ?_
          rotate_left
          · (intro w' hSw; (try dsimp only at hSw); go_simp; (try (with_reducible rfl)))
          simp only [Act.put, List.getElem_toArray, List.getElem_cons_succ, List.getElem_cons_zero, List.setIfInBounds_toArray, List.set_cons_succ, List.set_cons_zero]
          refine wpAnyH_take (i := 32) (v := ?_) rfl (by kernel_rfl) (by kernel_rfl) (by kernel_rfl) (fun _ _ _ h => h) (Or.inl ⟨by rfl, ?_⟩) (by assumption) ?_
          rotate_left
          · (intro w' hSw; (try dsimp only at hSw); go_simp; (try (with_reducible rfl)))
          simp only [Act.put, List.getElem_toArray, List.getElem_cons_succ, List.getElem_cons_zero, List.setIfInBounds_toArray, List.set_cons_succ, List.set_cons_zero]
          refine wpAnyH_take (i := 33) (v := ?_) rfl (by kernel_rfl) (by kernel_rfl) (by kernel_rfl) (fun _ _ _ h => h) (Or.inl ⟨by rfl, ?_⟩) (by assumption) ?_
          rotate_left
          · (intro w' hSw; (try dsimp only at hSw); go_simp; (try (with_reducible rfl)))
          simp only [Act.put, List.getElem_toArray, List.getElem_cons_succ, List.getElem_cons_zero, List.setIfInBounds_toArray, List.set_cons_succ, List.set_cons_zero]
          refine wpAnyH_take (i := 34) (v := ?_) rfl (by kernel_rfl) (by kernel_rfl) (by kernel_rfl) (fun _ _ _ h => h) (Or.inl ⟨by rfl, ?_⟩) (by assumption) ?_
          rotate_left
          · (intro w' hSw; (try dsimp only at hSw); go_simp; (try (with_reducible rfl)))
          simp only [Act.put, List.getElem_toArray, List.getElem_cons_succ, List.getElem_cons_zero, List.setIfInBounds_toArray, List.set_cons_succ, List.set_cons_zero]
          refine wpAnyH_take (i := 35) (v := ?_) rfl (by kernel_rfl) (by kernel_rfl) (by kernel_rfl) (fun _ _ _ h => h) (Or.inl ⟨by rfl, ?_⟩) (by assumption) ?_
          rotate_left
          · (intro w' hSw; (try dsimp only at hSw); go_simp; (try (with_reducible rfl)))
          simp only [Act.put, List.getElem_toArray, List.getElem_cons_succ, List.getElem_cons_zero, List.setIfInBounds_toArray, List.set_cons_succ, List.set_cons_zero]
          refine wpAnyH_take (i := 36) (v := ?_) rfl (by kernel_rfl) (by kernel_rfl) (by kernel_rfl) (fun _ _ _ h => h) (Or.inl ⟨by rfl, ?_⟩) (by assumption) ?_
          rotate_left
          · (intro w' hSw; (try dsimp only at hSw); go_simp; (try (with_reducible rfl)))
          simp only [Act.put, List.getElem_toArray, List.getElem_cons_succ, List.getElem_cons_zero, List.setIfInBounds_toArray, List.set_cons_succ, List.set_cons_zero]
          refine wpAnyH_take (i := 37) (v := ?_) rfl (by kernel_rfl) (by kernel_rfl) (by kernel_rfl) (fun _ _ _ h => h) (Or.inl ⟨by rfl, ?_⟩) (by assumption) ?_
          rotate_left
          · (intro w' hSw; (try dsimp only at hSw); go_simp; (try (with_reducible rfl)))
          simp only [Act.put, List.getElem_toArray, List.getElem_cons_succ, List.getElem_cons_zero, List.setIfInBounds_toArray, List.set_cons_succ, List.set_cons_zero]
          refine wpAnyH_take (i := 38) (v := ?_) rfl (by kernel_rfl) (by kernel_rfl) (by kernel_rfl) (fun _ _ _ h => h) (Or.inl ⟨by rfl, ?_⟩) (by assumption) ?_
          rotate_left
          · (intro w' hSw; (try dsimp only at hSw); go_simp; (try (with_reducible rfl)))
          simp only [Act.put, List.getElem_toArray, List.getElem_cons_succ, List.getElem_cons_zero, List.setIfInBounds_toArray, List.set_cons_succ, List.set_cons_zero]
          refine wpAnyH_take (i := 39) (v := ?_) rfl (by kernel_rfl) (by kernel_rfl) (by kernel_rfl) (fun _ _ _ h => h) (Or.inl ⟨by rfl, ?_⟩) (by assumption) ?_
          rotate_left
          · (intro w' hSw; (try dsimp only at hSw); go_simp; (try (with_reducible rfl)))
          simp only [Act.put, List.getElem_toArray, List.getElem_cons_succ, List.getElem_cons_zero, List.setIfInBounds_toArray, List.set_cons_succ, List.set_cons_zero]
          refine wpAnyH_take (i := 40) (v := ?_) rfl (by kernel_rfl) (by kernel_rfl) (by kernel_rfl) (fun _ _ _ h => h) (Or.inl ⟨by rfl, ?_⟩) (by assumption) ?_
          rotate_left
          · (intro w' hSw; (try dsimp only at hSw); go_simp; (try (with_reducible rfl)))
          simp only [Act.put, List.getElem_toArray, List.getElem_cons_succ, List.getElem_cons_zero, List.setIfInBounds_toArray, List.set_cons_succ, List.set_cons_zero]
          refine wpAnyH_take (i := 41) (v := ?_) rfl (by kernel_rfl) (by kernel_rfl) (by kernel_rfl) (fun _ _ _ h => h) (Or.inl ⟨by rfl, ?_⟩) (by assumption) ?_
          rotate_left
          · (intro w' hSw; (try dsimp only at hSw); go_simp; (try (with_reducible rfl)))
          simp only [Act.put, List.getElem_toArray, List.getElem_cons_succ, List.getElem_cons_zero, List.setIfInBounds_toArray, List.set_cons_succ, List.set_cons_zero]
          refine wpAnyH_take (i := 42) (v := ?_) rfl (by kernel_rfl) (by kernel_rfl) (by kernel_rfl) (fun _ _ _ h => h) (Or.inl ⟨by rfl, ?_⟩) (by assumption) ?_
          rotate_left
          · (intro w' hSw; (try dsimp only at hSw); go_simp; (try (with_reducible rfl)))
          simp only [Act.put, List.getElem_toArray, List.getElem_cons_succ, List.getElem_cons_zero, List.setIfInBounds_toArray, List.set_cons_succ, List.set_cons_zero]
          refine wpAnyH_take (i := 43) (v := ?_) rfl (by kernel_rfl) (by kernel_rfl) (by kernel_rfl) (fun _ _ _ h => h) (Or.inl ⟨by rfl, ?_⟩) (by assumption) ?_
          rotate_left
          · (intro w' hSw; (try dsimp only at hSw); go_simp; (try (with_reducible rfl)))
          simp only [Act.put, List.getElem_toArray, List.getElem_cons_succ, List.getElem_cons_zero, List.setIfInBounds_toArray, List.set_cons_succ, List.set_cons_zero]
          refine wpAnyH_take (i := 44) (v := ?_) rfl (by kernel_rfl) (by kernel_rfl) (by kernel_rfl) (fun _ _ _ h => h) (Or.inl ⟨by rfl, ?_⟩) (by assumption) ?_
          rotate_left
          · (intro w' hSw; (try dsimp only at hSw); go_simp; (try (with_reducible rfl)))
          simp only [Act.put, List.getElem_toArray, List.getElem_cons_succ, List.getElem_cons_zero, List.setIfInBounds_toArray, List.set_cons_succ, List.set_cons_zero]
          refine wpAnyH_take (i := 45) (v := ?_) rfl (by kernel_rfl) (by kernel_rfl) (by kernel_rfl) (fun _ _ _ h => h) (Or.inl ⟨by rfl, ?_⟩) (by assumption) ?_
          rotate_left
          · (intro w' hSw; (try dsimp only at hSw); go_simp; (try (with_reducible rfl)))
          simp only [Act.put, List.getElem_toArray, List.getElem_cons_succ, List.getElem_cons_zero, List.setIfInBounds_toArray, List.set_cons_succ, List.set_cons_zero]
          refine wpAnyH_ready (rs := [46]) (by kernel_rfl) (by simp) ?_
          refine AllReadyH.cons rfl (fun K hK => ?_) AllReadyH.nil
          go_simp
          (go_at_call 23; refine (sign_not0 _).mono ?_; rintro e w4 ⟨rfl, hb4⟩; (try go_simp))
          refine hK.out _ _ ?_ (fun hHeld => ?_)
          · (try dsimp only); ((try go_split_ands); refine MK.out _ ?_; repeat (first | assumption | exact Below.refl _ _ | apply Below.drew | apply kb_alloc | refine keep_below ?_ hb4))
          clear hK K
          refine wpAnyH_take (i := 47) (v := ?_) rfl (by kernel_rfl) (by kernel_rfl) (by kernel_rfl) (fun _ _ _ h => h) (Or.inl ⟨by rfl, ?_⟩) (by assumption) ?_
          rotate_left
          · (intro w' hSw; (try dsimp only at hSw); go_simp; (try (with_reducible rfl)))
          simp only [Act.put, List.getElem_toArray, List.getElem_cons_succ, List.getElem_cons_zero, List.setIfInBounds_toArray, List.set_cons_succ, List.set_cons_zero]
          refine wpAnyH_take (i := 48) (v := ?_) rfl (by kernel_rfl) (by kernel_rfl) (by kernel_rfl) (fun _ _ _ h => h) (Or.inl ⟨by rfl, ?_⟩) (by assumption) ?_
          rotate_left
          · (intro w' hSw; (try dsimp only at hSw); go_simp; (try (with_reducible rfl)))
          simp only [Act.put, List.getElem_toArray, List.getElem_cons_succ, List.getElem_cons_zero, List.setIfInBounds_toArray, List.set_cons_succ, List.set_cons_zero]
          refine wpAnyH_take (i := 49) (v := ?_) rfl (by kernel_rfl) (by kernel_rfl) (by kernel_rfl) (fun _ _ _ h => h) (Or.inl ⟨by rfl, ?_⟩) (by assumption) ?_
          rotate_left
          · (intro w' hSw; (try dsimp only at hSw); go_simp; (try (with_reducible rfl)))
          simp only [Act.put, List.getElem_toArray, List.getElem_cons_succ, List.getElem_cons_zero, List.setIfInBounds_toArray, List.set_cons_succ, List.set_cons_zero]
          refine wpAnyH_take (i := 50) (v := ?_) rfl (by kernel_rfl) (by kernel_rfl) (by kernel_rfl) (fun _ _ _ h => h) (Or.inl ⟨by rfl, ?_⟩) (by assumption) ?_
          rotate_left
          · (intro w' hSw; (try dsimp only at hSw); go_simp; (try (with_reducible rfl)))
          simp only [Act.put, List.getElem_toArray, List.getElem_cons_succ, List.getElem_cons_zero, List.setIfInBounds_toArray, List.set_cons_succ, List.set_cons_zero]
          refine wpAnyH_take (i := 51) (v := ?_) rfl (by kernel_rfl) (by kernel_rfl) (by kernel_rfl) (fun _ _ _ h => h) (Or.inl ⟨by rfl, ?_⟩) (by assumption) ?_
          rotate_left
          · (intro w' hSw; (try dsimp only at hSw); go_simp; (try (with_reducible rfl)))
          simp only [Act.put, List.getElem_toArray, List.getElem_cons_succ, List.getElem_cons_zero, List.setIfInBounds_toArray, List.set_cons_succ, List.set_cons_zero]
          refine wpAnyH_take (i := 52) (v := ?_) rfl (by kernel_rfl) (by kernel_rfl) (by kernel_rfl) (fun _ _ _ h => h) (Or.inl ⟨by rfl, ?_⟩) (by assumption) ?_
          rotate_left
          · (intro w' hSw; (try dsimp only at hSw); go_simp; (try (with_reducible rfl)))
          simp only [Act.put, List.getElem_toArray, List.getElem_cons_succ, List.getElem_cons_zero, List.setIfInBounds_toArray, List.set_cons_succ, List.set_cons_zero]
          refine wpAnyH_take (i := 53) (v := ?_) rfl (by kernel_rfl) (by kernel_rfl) (by kernel_rfl) (fun _ _ _ h => h) (Or.inl ⟨by rfl, ?_⟩) (by assumption) ?_
          rotate_left
          · (intro w' hSw; (try dsimp only at hSw); go_simp; (try (with_reducible rfl)))
          simp only [Act.put, List.getElem_toArray, List.getElem_cons_succ, List.getElem_cons_zero, List.setIfInBounds_toArray, List.set_cons_succ, List.set_cons_zero]
          refine wpAnyH_take (i := 54) (v := ?_) rfl (by kernel_rfl) (by kernel_rfl) (by kernel_rfl) (fun _ _ _ h => h) (Or.inl ⟨by rfl, ?_⟩) (by assumption) ?_
          rotate_left
          · (intro w' hSw; (try dsimp only at hSw); go_simp; (try (with_reducible rfl)))
          simp only [Act.put, List.getElem_toArray, List.getElem_cons_succ, List.getElem_cons_zero, List.setIfInBounds_toArray, List.set_cons_succ, List.set_cons_zero]
          refine wpAnyH_take (i := 55) (v := ?_) rfl (by kernel_rfl) (by kernel_rfl) (by kernel_rfl) (fun _ _ _ h => h) (Or.inl ⟨by rfl, ?_⟩) (by assumption) ?_
          rotate_left
          · (intro w' hSw; (try dsimp only at hSw); go_simp; (try (with_reducible rfl)))
          simp only [Act.put, List.getElem_toArray, List.getElem_cons_succ, List.getElem_cons_zero, List.setIfInBounds_toArray, List.set_cons_succ, List.set_cons_zero]
          refine wpAnyH_take (i := 56) (v := ?_) rfl (by kernel_rfl) (by kernel_rfl) (by kernel_rfl) (fun _ _ _ h => h) (Or.inl ⟨by rfl, ?_⟩) (by assumption) ?_
          rotate_left
          · (intro w' hSw; (try dsimp only at hSw); go_simp; (try (with_reducible rfl)))
          simp only [Act.put, List.getElem_toArray, List.getElem_cons_succ, List.getElem_cons_zero, List.setIfInBounds_toArray, List.set_cons_succ, List.set_cons_zero]
          refine wpAnyH_take (i := 57) (v := ?_) rfl (by kernel_rfl) (by kernel_rfl) (by kernel_rfl) (fun _ _ _ h => h) (Or.inl ⟨by rfl, ?_⟩) (by assumption) ?_
          rotate_left
          · (intro w' hSw; (try dsimp only at hSw); go_simp; (try (with_reducible rfl)))
          simp only [Act.put, List.getElem_toArray, List.getElem_cons_succ, List.getElem_cons_zero, List.setIfInBounds_toArray, List.set_cons_succ, List.set_cons_zero]
          refine wpAnyH_take (i := 58) (v := ?_) rfl (by kernel_rfl) (by kernel_rfl) (by kernel_rfl) (fun _ _ _ h => h) (Or.inl ⟨by rfl, ?_⟩) (by assumption) ?_
          rotate_left
          · (intro w' hSw; (try dsimp only at hSw); go_simp; (try (with_reducible rfl)))
          simp only [Act.put, List.getElem_toArray, List.getElem_cons_succ, List.getElem_cons_zero, List.setIfInBounds_toArray, List.set_cons_succ, List.set_cons_zero]
          refine wpAnyH_done (by kernel_rfl) ?_ _
          have hb : Below W12.heap.size W12 w4 := (by assumption : w4.cell? ⟨x10.heap.size, 0, none⟩ = some (.int .i64 1) ∧ w4.cell? ⟨x10.heap.size, 1, none⟩ = some (.int .i64 (a)) ∧ w4.cell? ⟨x10.heap.size, 2, none⟩ = some (.string { data := #[] }) ∧ w4.cell? ⟨x2.heap.size, 0, none⟩ = some (.int .i64 1) ∧ w4.cell? ⟨x2.heap.size, 1, none⟩ = some (.int .i64 (a)) ∧ w4.cell? ⟨x2.heap.size, 2, none⟩ = some (.string { data := #[] }) ∧ w4.cell? ⟨x8.heap.size, 0, none⟩ = some (.int .i64 1) ∧ w4.cell? ⟨x8.heap.size, 1, none⟩ = some (.int .i64 (a.tmod b)) ∧ w4.cell? ⟨x8.heap.size, 2, none⟩ = some (.string { data := #[] }) ∧ w4.cell? ⟨x11.heap.size, 0, none⟩ = some (.int .i64 2) ∧ w4.cell? ⟨x11.heap.size, 1, none⟩ = some (.int .i64 1) ∧ w4.cell? ⟨x11.heap.size, 2, none⟩ = some (.string { data := #[] }) ∧ w4.cell? ⟨x12.heap.size, 0, none⟩ = some (.int .i64 2) ∧ w4.cell? ⟨x12.heap.size, 1, none⟩ = some (.int .i64 0) ∧ w4.cell? ⟨x12.heap.size, 2, none⟩ = some (.string { data := #[] }) ∧ Below W12.heap.size W12 w4).2.2.2.2.2.2.2.2.2.2.2.2.2.2.2
          replace d10 := keep_cell hb y1 d10
          replace d11 := keep_cell hb y1 d11
          replace d12 := keep_cell hb y1 d12
          replace y1 := Nat.lt_of_lt_of_le y1 hb.size
          replace d80 := keep_cell hb y8 d80
          replace d81 := keep_cell hb y8 d81
          replace d82 := keep_cell hb y8 d82
          replace y8 := Nat.lt_of_lt_of_le y8 hb.size
          replace d100 := keep_cell hb y10 d100
          replace d101 := keep_cell hb y10 d101
          replace d102 := keep_cell hb y10 d102
          replace y10 := Nat.lt_of_lt_of_le y10 hb.size
          replace d110 := keep_cell hb y11 d110
          replace d111 := keep_cell hb y11 d111
          replace d112 := keep_cell hb y11 d112
          replace y11 := Nat.lt_of_lt_of_le y11 hb.size
          replace d120 := keep_cell hb y12 d120
          replace d121 := keep_cell hb y12 d121
          replace d122 := keep_cell hb y12 d122
          replace y12 := Nat.lt_of_lt_of_le y12 hb.size
          replace B := keep_below B hb
          clear hb
          go_wp2
          go_ret
          exact ⟨rfl, B⟩
        · skip
          have f1 : bN (decide (a < b)) = 0 := by simp [bN]; omega
          have f2 : bN (decide (b ≤ a)) = 1 := by simp [bN]; omega
          rw [f1] at d111
          rw [f2] at d121
          clear f1 f2
          have c4 : (a.tmod b == 0) = false := by simpa using c1
          have c5 : decide (a.tmod b < 0) = true := by simpa using c3
          have c6 : decide (a < 0) = true := by simpa using c2
          have hl2 : decide (a < b) = false := by simpa using hl
          clear d20 d21 d22 y2
          clear d30 d31 d32 y3
          clear d40 d41 d42 y4
          clear d50 d51 d52 y5
          clear d60 d61 d62 y6
          clear d70 d71 d72 y7
          clear d90 d91 d92 y9
          have mk : ∀ w' : World, Below W12.heap.size W12 w' → (w'.cell? ⟨x10.heap.size, 0, none⟩ = some (.int .i64 1) ∧ w'.cell? ⟨x10.heap.size, 1, none⟩ = some (.int .i64 (a)) ∧ w'.cell? ⟨x10.heap.size, 2, none⟩ = some (.string { data := #[] }) ∧ w'.cell? ⟨x2.heap.size, 0, none⟩ = some (.int .i64 1) ∧ w'.cell? ⟨x2.heap.size, 1, none⟩ = some (.int .i64 (a)) ∧ w'.cell? ⟨x2.heap.size, 2, none⟩ = some (.string { data := #[] }) ∧ w'.cell? ⟨x8.heap.size, 0, none⟩ = some (.int .i64 1) ∧ w'.cell? ⟨x8.heap.size, 1, none⟩ = some (.int .i64 (a.tmod b)) ∧ w'.cell? ⟨x8.heap.size, 2, none⟩ = some (.string { data := #[] }) ∧ w'.cell? ⟨x11.heap.size, 0, none⟩ = some (.int .i64 2) ∧ w'.cell? ⟨x11.heap.size, 1, none⟩ = some (.int .i64 0) ∧ w'.cell? ⟨x11.heap.size, 2, none⟩ = some (.string { data := #[] }) ∧ w'.cell? ⟨x12.heap.size, 0, none⟩ = some (.int .i64 2) ∧ w'.cell? ⟨x12.heap.size, 1, none⟩ = some (.int .i64 1) ∧ w'.cell? ⟨x12.heap.size, 2, none⟩ = some (.string { data := #[] }) ∧ Below W12.heap.size W12 w') := fun w' h => ⟨keep_cell h y10 d100, keep_cell h y10 d101, keep_cell h y10 d102, keep_cell h y1 d10, keep_cell h y1 d11, keep_cell h y1 d12, keep_cell h y8 d80, keep_cell h y8 d81, keep_cell h y8 d82, keep_cell h y11 d110, keep_cell h y11 d111, keep_cell h y11 d112, keep_cell h y12 d120, keep_cell h y12 d121, keep_cell h y12 d122, h⟩
          have MK := Lib.hid mk
          clear mk
          refine wp_region_held_drew (S := fun w' => w'.cell? ⟨x10.heap.size, 0, none⟩ = some (.int .i64 1) ∧ w'.cell? ⟨x10.heap.size, 1, none⟩ = some (.int .i64 (a)) ∧ w'.cell? ⟨x10.heap.size, 2, none⟩ = some (.string { data := #[] }) ∧ w'.cell? ⟨x2.heap.size, 0, none⟩ = some (.int .i64 1) ∧ w'.cell? ⟨x2.heap.size, 1, none⟩ = some (.int .i64 (a)) ∧ w'.cell? ⟨x2.heap.size, 2, none⟩ = some (.string { data := #[] }) ∧ w'.cell? ⟨x8.heap.size, 0, none⟩ = some (.int .i64 1) ∧ w'.cell? ⟨x8.heap.size, 1, none⟩ = some (.int .i64 (a.tmod b)) ∧ w'.cell? ⟨x8.heap.size, 2, none⟩ = some (.string { data := #[] }) ∧ w'.cell? ⟨x11.heap.size, 0, none⟩ = some (.int .i64 2) ∧ w'.cell? ⟨x11.heap.size, 1, none⟩ = some (.int .i64 0) ∧ w'.cell? ⟨x11.heap.size, 2, none⟩ = some (.string { data := #[] }) ∧ w'.cell? ⟨x12.heap.size, 0, none⟩ = some (.int .i64 2) ∧ w'.cell? ⟨x12.heap.size, 1, none⟩ = some (.int .i64 1) ∧ w'.cell? ⟨x12.heap.size, 2, none⟩ = some (.string { data := #[] }) ∧ Below W12.heap.size W12 w') (by kernel_rfl) (MK.out _ (Below.drew (Below.refl _ _))) (fun hHeld => ?_)
          refine wpAnyH_take (i := 0) (v := ?_) rfl (by kernel_rfl) (by kernel_rfl) (by kernel_rfl) (fun _ _ _ h => h) (Or.inl ⟨by rfl, ?_⟩) (by assumption) ?_
          rotate_left
          · (intro w' hSw; (try dsimp only at hSw); go_simp; (try (with_reducible rfl)))
          simp only [Act.put, List.getElem_toArray, List.getElem_cons_zero, List.setIfInBounds_toArray, List.set_cons_succ, List.set_cons_zero]
          refine wpAnyH_take (i := 1) (v := ?_) rfl (by kernel_rfl) (by kernel_rfl) (by kernel_rfl) (fun _ _ _ h => h) (Or.inl ⟨by rfl, ?_⟩) (by assumption) ?_
          rotate_left
          · (intro w' hSw; (try dsimp only at hSw); go_simp; (try (with_reducible rfl)))
          simp only [Act.put, List.getElem_toArray, List.getElem_cons_succ, List.getElem_cons_zero, List.setIfInBounds_toArray, List.set_cons_succ, List.set_cons_zero]
          refine wpAnyH_take (i := 2) (v := ?_) rfl (by kernel_rfl) (by kernel_rfl) (by kernel_rfl) (fun _ _ _ h => h) (Or.inl ⟨by rfl, ?_⟩) (by assumption) ?_
          rotate_left
          · (intro w' hSw; (try dsimp only at hSw); go_simp; (try (with_reducible rfl)))
          simp only [Act.put, List.getElem_toArray, List.getElem_cons_succ, List.getElem_cons_zero, List.setIfInBounds_toArray, List.set_cons_succ, List.set_cons_zero]
          refine wpAnyH_take (i := 3) (v := ?_) rfl (by kernel_rfl) (by kernel_rfl) (by kernel_rfl) (fun _ _ _ h => h) (Or.inl ⟨by rfl, ?_⟩) (by assumption) ?_
          rotate_left
          · (intro w' hSw; (try dsimp only at hSw); go_simp; (try (with_reducible rfl)))
          simp only [Act.put, List.getElem_toArray, List.getElem_cons_succ, List.getElem_cons_zero, List.setIfInBounds_toArray, List.set_cons_succ, List.set_cons_zero]
          refine wpAnyH_take (i := 4) (v := ?_) rfl (by kernel_rfl) (by kernel_rfl) (by kernel_rfl) (fun _ _ _ h => h) (Or.inl ⟨by rfl, ?_⟩) (by assumption) ?_
          rotate_left
          · (intro w' hSw; (try dsimp only at hSw); go_simp; (try (with_reducible rfl)))
          simp only [Act.put, List.getElem_toArray, List.getElem_cons_succ, List.getElem_cons_zero, List.setIfInBounds_toArray, List.set_cons_succ, List.set_cons_zero]
          refine wpAnyH_take (i := 5) (v := ?_) rfl (by kernel_rfl) (by kernel_rfl) (by kernel_rfl) (fun _ _ _ h => h) (Or.inl ⟨by rfl, ?_⟩) (by assumption) ?_
          rotate_left
          · (intro w' hSw; (try dsimp only at hSw); go_simp; (try (with_reducible rfl)))
          simp only [Act.put, List.getElem_toArray, List.getElem_cons_succ, List.getElem_cons_zero, List.setIfInBounds_toArray, List.set_cons_succ, List.set_cons_zero]
          refine wpAnyH_take (i := 6) (v := ?_) rfl (by kernel_rfl) (by kernel_rfl) (by kernel_rfl) (fun _ _ _ h => h) (Or.inl ⟨by rfl, ?_⟩) (by assumption) ?_
          rotate_left
          · (intro w' hSw; (try dsimp only at hSw); go_simp; (try (with_reducible rfl)))
          simp only [Act.put, List.getElem_toArray, List.getElem_cons_succ, List.getElem_cons_zero, List.setIfInBounds_toArray, List.set_cons_succ, List.set_cons_zero]
          refine wpAnyH_take (i := 7) (v := ?_) rfl (by kernel_rfl) (by kernel_rfl) (by kernel_rfl) (fun _ _ _ h => h) (Or.inl ⟨by rfl, ?_⟩) (by assumption) ?_
          rotate_left
          · (intro w' hSw; (try dsimp only at hSw); go_simp; (try (with_reducible rfl)))
          simp only [Act.put, List.getElem_toArray, List.getElem_cons_succ, List.getElem_cons_zero, List.setIfInBounds_toArray, List.set_cons_succ, List.set_cons_zero]
          refine wpAnyH_take (i := 8) (v := ?_) rfl (by kernel_rfl) (by kernel_rfl) (by kernel_rfl) (fun _ _ _ h => h) (Or.inl ⟨by rfl, ?_⟩) (by assumption) ?_
          rotate_left
          · (intro w' hSw; (try dsimp only at hSw); go_simp; (try (with_reducible rfl)))
          simp only [Act.put, List.getElem_toArray, List.getElem_cons_succ, List.getElem_cons_zero, List.setIfInBounds_toArray, List.set_cons_succ, List.set_cons_zero]
          refine wpAnyH_take (i := 9) (v := ?_) rfl (by kernel_rfl) (by kernel_rfl) (by kernel_rfl) (fun _ _ _ h => h) (Or.inl ⟨by rfl, ?_⟩) (by assumption) ?_
          rotate_left
          · (intro w' hSw; (try dsimp only at hSw); go_simp; (try (with_reducible rfl)))
          simp only [Act.put, List.getElem_toArray, List.getElem_cons_succ, List.getElem_cons_zero, List.setIfInBounds_toArray, List.set_cons_succ, List.set_cons_zero]
          refine wpAnyH_take (i := 10) (v := ?_) rfl (by kernel_rfl) (by kernel_rfl) (by kernel_rfl) (fun _ _ _ h => h) (Or.inl ⟨by rfl, ?_⟩) (by assumption) ?_
          rotate_left
          · (intro w' hSw; (try dsimp only at hSw); go_simp; (try (with_reducible rfl)))
          simp only [Act.put, List.getElem_toArray, List.getElem_cons_succ, List.getElem_cons_zero, List.setIfInBounds_toArray, List.set_cons_succ, List.set_cons_zero]
          refine wpAnyH_take (i := 11) (v := ?_) rfl (by kernel_rfl) (by kernel_rfl) (by kernel_rfl) (fun _ _ _ h => h) (Or.inl ⟨by rfl, ?_⟩) (by assumption) ?_
          rotate_left
          · (intro w' hSw; (try dsimp only at hSw); go_simp; (try (with_reducible rfl)))
          simp only [Act.put, List.getElem_toArray, List.getElem_cons_succ, List.getElem_cons_zero, List.setIfInBounds_toArray, List.set_cons_succ, List.set_cons_zero]
          refine wpAnyH_take (i := 12) (v := ?_) rfl (by kernel_rfl) (by kernel_rfl) (by kernel_rfl) (fun _ _ _ h => h) (Or.inl ⟨by rfl, ?_⟩) (by assumption) ?_
          rotate_left
          · (intro w' hSw; (try dsimp only at hSw); go_simp; (try (with_reducible rfl)))
          simp only [Act.put, List.getElem_toArray, List.getElem_cons_succ, List.getElem_cons_zero, List.setIfInBounds_toArray, List.set_cons_succ, List.set_cons_zero]
          refine wpAnyH_take (i := 13) (v := ?_) rfl (by kernel_rfl) (by kernel_rfl) (by kernel_rfl) (fun _ _ _ h => h) (Or.inl ⟨by rfl, ?_⟩) (by assumption) ?_
          rotate_left
          · (intro w' hSw; (try dsimp only at hSw); go_simp; (try (with_reducible rfl)))
          simp only [Act.put, List.getElem_toArray, List.getElem_cons_succ, List.getElem_cons_zero, List.setIfInBounds_toArray, List.set_cons_succ, List.set_cons_zero]
          refine wpAnyH_take (i := 14) (v := ?_) rfl (by kernel_rfl) (by kernel_rfl) (by kernel_rfl) (fun _ _ _ h => h) (Or.inl ⟨by rfl, ?_⟩) (by assumption) ?_
          rotate_left
          · (intro w' hSw; (try dsimp only at hSw); go_simp; (try (with_reducible rfl)))
          simp only [Act.put, List.getElem_toArray, List.getElem_cons_succ, List.getElem_cons_zero, List.setIfInBounds_toArray, List.set_cons_succ, List.set_cons_zero]
          refine wpAnyH_take (i := 15) (v := ?_) rfl (by kernel_rfl) (by kernel_rfl) (by kernel_rfl) (fun _ _ _ h => h) (Or.inl ⟨by rfl, ?_⟩) (by assumption) ?_
          rotate_left
          · (intro w' hSw; (try dsimp only at hSw); go_simp; (try (with_reducible rfl)))
          simp only [Act.put, List.getElem_toArray, List.getElem_cons_succ, List.getElem_cons_zero, List.setIfInBounds_toArray, List.set_cons_succ, List.set_cons_zero]
          refine wpAnyH_take (i := 16) (v := ?_) rfl (by kernel_rfl) (by kernel_rfl) (by kernel_rfl) (fun _ _ _ h => h) (Or.inl ⟨by rfl, ?_⟩) (by assumption) ?_
          rotate_left
          · (intro w' hSw; (try dsimp only at hSw); go_simp; (try (with_reducible rfl)))
          simp only [Act.put, List.getElem_toArray, List.getElem_cons_succ, List.getElem_cons_zero, List.setIfInBounds_toArray, List.set_cons_succ, List.set_cons_zero]
          refine wpAnyH_take (i := 17) (v := ?_) rfl (by kernel_rfl) (by kernel_rfl) (by kernel_rfl) (fun _ _ _ h => h) (Or.inl ⟨by rfl, ?_⟩) (by assumption) ?_
          rotate_left
          · (intro w' hSw; (try dsimp only at hSw); go_simp; (try (with_reducible rfl)))
          simp only [Act.put, List.getElem_toArray, List.getElem_cons_succ, List.getElem_cons_zero, List.setIfInBounds_toArray, List.set_cons_succ, List.set_cons_zero]
          refine wpAnyH_take (i := 18) (v := ?_) rfl (by kernel_rfl) (by kernel_rfl) (by kernel_rfl) (fun _ _ _ h => h) (Or.inl ⟨by rfl, ?_⟩) (by assumption) ?_
          rotate_left
          · (intro w' hSw; (try dsimp only at hSw); go_simp; (try (with_reducible rfl)))
          simp only [Act.put, List.getElem_toArray, List.getElem_cons_succ, List.getElem_cons_zero, List.setIfInBounds_toArray, List.set_cons_succ, List.set_cons_zero]
          refine wpAnyH_take (i := 19) (v := ?_) rfl (by kernel_rfl) (by kernel_rfl) (by kernel_rfl) (fun _ _ _ h => h) (Or.inl ⟨by rfl, ?_⟩) (by assumption) ?_
          rotate_left
          · (intro w' hSw; (try dsimp only at hSw); go_simp; (try (with_reducible rfl)))
          simp only [Act.put, List.getElem_toArray, List.getElem_cons_succ, List.getElem_cons_zero, List.setIfInBounds_toArray, List.set_cons_succ, List.set_cons_zero]
          refine wpAnyH_take (i := 20) (v := ?_) rfl (by kernel_rfl) (by kernel_rfl) (by kernel_rfl) (fun _ _ _ h => h) (Or.inl ⟨by rfl, ?_⟩) (by assumption) ?_
          rotate_left
          · (intro w' hSw; (try dsimp only at hSw); go_simp; (try (with_reducible rfl)))
          simp only [Act.put, List.getElem_toArray, List.getElem_cons_succ, List.getElem_cons_zero, List.setIfInBounds_toArray, List.set_cons_succ, List.set_cons_zero]
          refine wpAnyH_take (i := 21) (v := ?_) rfl (by kernel_rfl) (by kernel_rfl) (by kernel_rfl) (fun _ _ _ h => h) (Or.inl ⟨by rfl, ?_⟩) (by assumption) ?_
          rotate_left
          · (intro w' hSw; (try dsimp only at hSw); go_simp; (try (with_reducible rfl)))
          simp only [Act.put, List.getElem_toArray, List.getElem_cons_succ, List.getElem_cons_zero, List.setIfInBounds_toArray, List.set_cons_succ, List.set_cons_zero]
          refine wpAnyH_take (i := 22) (v := ?_) rfl (by kernel_rfl) (by kernel_rfl) (by kernel_rfl) (fun _ _ _ h => h) (Or.inl ⟨by rfl, ?_⟩) (by assumption) ?_
          rotate_left
          · (intro w' hSw; (try dsimp only at hSw); go_simp; (try (with_reducible rfl)))
          simp only [Act.put, List.getElem_toArray, List.getElem_cons_succ, List.getElem_cons_zero, List.setIfInBounds_toArray, List.set_cons_succ, List.set_cons_zero]
          refine wpAnyH_take (i := 23) (v := ?_) rfl (by kernel_rfl) (by kernel_rfl) (by kernel_rfl) (fun _ _ _ h => h) (Or.inl ⟨by rfl, ?_⟩) (by assumption) ?_
          rotate_left
          · (intro w' hSw; (try dsimp only at hSw); go_simp; (try (with_reducible rfl)))
          simp only [Act.put, List.getElem_toArray, List.getElem_cons_succ, List.getElem_cons_zero, List.setIfInBounds_toArray, List.set_cons_succ, List.set_cons_zero]
          refine wpAnyH_take (i := 24) (v := ?_) rfl (by kernel_rfl) (by kernel_rfl) (by kernel_rfl) (fun _ _ _ h => h) (Or.inl ⟨by rfl, ?_⟩) (by assumption) ?_
          rotate_left
          · (intro w' hSw; (try dsimp only at hSw); go_simp; (try (with_reducible rfl)))
          simp only [Act.put, List.getElem_toArray, List.getElem_cons_succ, List.getElem_cons_zero, List.setIfInBounds_toArray, List.set_cons_succ, List.set_cons_zero]
          refine wpAnyH_take (i := 25) (v := ?_) rfl (by kernel_rfl) (by kernel_rfl) (by kernel_rfl) (fun _ _ _ h => h) (Or.inl ⟨by rfl, ?_⟩) (by assumption) ?_
          rotate_left
          · (intro w' hSw; (try dsimp only at hSw); go_simp; (try (with_reducible rfl)))
          simp only [Act.put, List.getElem_toArray, List.getElem_cons_succ, List.getElem_cons_zero, List.setIfInBounds_toArray, List.set_cons_succ, List.set_cons_zero]
          refine wpAnyH_take (i := 26) (v := ?_) rfl (by kernel_rfl) (by kernel_rfl) (by kernel_rfl) (fun _ _ _ h => h) (Or.inl ⟨by rfl, ?_⟩) (by assumption) ?_
          rotate_left
          · (intro w' hSw; (try dsimp only at hSw); go_simp; (try (with_reducible rfl)))
          simp only [Act.put, List.getElem_toArray, List.getElem_cons_succ, List.getElem_cons_zero, List.setIfInBounds_toArray, List.set_cons_succ, List.set_cons_zero]
          refine wpAnyH_take (i := 27) (v := ?_) rfl (by kernel_rfl) (by kernel_rfl) (by kernel_rfl) (fun _ _ _ h => h) (Or.inl ⟨by rfl, ?_⟩) (by assumption) ?_
          rotate_left
          · (intro w' hSw; (try dsimp only at hSw); go_simp; (try (with_reducible rfl)))
          simp only [Act.put, List.getElem_toArray, List.getElem_cons_succ, List.getElem_cons_zero, List.setIfInBounds_toArray, List.set_cons_succ, List.set_cons_zero]
          refine wpAnyH_take (i := 28) (v := ?_) rfl (by kernel_rfl) (by kernel_rfl) (by kernel_rfl) (fun _ _ _ h => h) (Or.inl ⟨by rfl, ?_⟩) (by assumption) ?_
          rotate_left
          · (intro w' hSw; (try dsimp only at hSw); go_simp; (try (with_reducible rfl)))
          simp only [Act.put, List.getElem_toArray, List.getElem_cons_succ, List.getElem_cons_zero, List.setIfInBounds_toArray, List.set_cons_succ, List.set_cons_zero]
          refine wpAnyH_take (i := 29) (v := ?_) rfl (by kernel_rfl) (by kernel_rfl) (by kernel_rfl) (fun _ _ _ h => h) (Or.inl ⟨by rfl, ?_⟩) (by assumption) ?_
          rotate_left
          · (intro w' hSw; (try dsimp only at hSw); go_simp; (try (with_reducible rfl)))
          simp only [Act.put, List.getElem_toArray, List.getElem_cons_succ, List.getElem_cons_zero, List.setIfInBounds_toArray, List.set_cons_succ, List.set_cons_zero]
          refine wpAnyH_take (i := 30) (v := ?_) rfl (by kernel_rfl) (by kernel_rfl) (by kernel_rfl) (fun _ _ _ h => h) (Or.inl ⟨by rfl, ?_⟩) (by assumption) ?_
          rotate_left
          · (intro w' hSw; (try dsimp only at hSw); go_simp; (try (with_reducible rfl)))
          simp only [Act.put, List.getElem_toArray, List.getElem_cons_succ, List.getElem_cons_zero, List.setIfInBounds_toArray, List.set_cons_succ, List.set_cons_zero]
          refine wpAnyH_take (i := 31) (v := ?_) rfl (by kernel_rfl) (by kernel_rfl) (by kernel_rfl) (fun _ _ _ h => h) (Or.inl ⟨by rfl, ?_⟩) (by assumption) ?_
          rotate_left
          · (intro w' hSw; (try dsimp only at hSw); go_simp; (try (with_reducible rfl)))
          simp only [Act.put, List.getElem_toArray, List.getElem_cons_succ, List.getElem_cons_zero, List.setIfInBounds_toArray, List.set_cons_succ, List.set_cons_zero]
          refine wpAnyH_take (i := 32) (v := ?_) rfl (by kernel_rfl) (by kernel_rfl) (by kernel_rfl) (fun _ _ _ h => h) (Or.inl ⟨by rfl, ?_⟩) (by assumption) ?_
          rotate_left
          · (intro w' hSw; (try dsimp only at hSw); go_simp; (try (with_reducible rfl)))
          simp only [Act.put, List.getElem_toArray, List.getElem_cons_succ, List.getElem_cons_zero, List.setIfInBounds_toArray, List.set_cons_succ, List.set_cons_zero]
          refine wpAnyH_take (i := 33) (v := ?_) rfl (by kernel_rfl) (by kernel_rfl) (by kernel_rfl) (fun _ _ _ h => h) (Or.inl ⟨by rfl, ?_⟩) (by assumption) ?_
          rotate_left
          · (intro w' hSw; (try dsimp only at hSw); go_simp; (try (with_reducible rfl)))
          simp only [Act.put, List.getElem_toArray, List.getElem_cons_succ, List.getElem_cons_zero, List.setIfInBounds_toArray, List.set_cons_succ, List.set_cons_zero]
          refine wpAnyH_take (i := 34) (v := ?_) rfl (by kernel_rfl) (by kernel_rfl) (by kernel_rfl) (fun _ _ _ h => h) (Or.inl ⟨by rfl, ?_⟩) (by assumption) ?_
          rotate_left
          · (intro w' hSw; (try dsimp only at hSw); go_simp; (try (with_reducible rfl)))
          simp only [Act.put, List.getElem_toArray, List.getElem_cons_succ, List.getElem_cons_zero, List.setIfInBounds_toArray, List.set_cons_succ, List.set_cons_zero]
          refine wpAnyH_take (i := 35) (v := ?_) rfl (by kernel_rfl) (by kernel_rfl) (by kernel_rfl) (fun _ _ _ h => h) (Or.inl ⟨by rfl, ?_⟩) (by assumption) ?_
          rotate_left
          · (intro w' hSw; (try dsimp only at hSw); go_simp; (try (with_reducible rfl)))
          simp only [Act.put, List.getElem_toArray, List.getElem_cons_succ, List.getElem_cons_zero, List.setIfInBounds_toArray, List.set_cons_succ, List.set_cons_zero]
          refine wpAnyH_take (i := 36) (v := ?_) rfl (by kernel_rfl) (by kernel_rfl) (by kernel_rfl) (fun _ _ _ h => h) (Or.inl ⟨by rfl, ?_⟩) (by assumption) ?_
          rotate_left
          · (intro w' hSw; (try dsimp only at hSw); go_simp; (try (with_reducible rfl)))
          simp only [Act.put, List.getElem_toArray, List.getElem_cons_succ, List.getElem_cons_zero, List.setIfInBounds_toArray, List.set_cons_succ, List.set_cons_zero]
          refine wpAnyH_take (i := 37) (v := ?_) rfl (by kernel_rfl) (by kernel_rfl) (by kernel_rfl) (fun _ _ _ h => h) (Or.inl ⟨by rfl, ?_⟩) (by assumption) ?_
          rotate_left
          · (intro w' hSw; (try dsimp only at hSw); go_simp; (try (with_reducible rfl)))
          simp only [Act.put, List.getElem_toArray, List.getElem_cons_succ, List.getElem_cons_zero, List.setIfInBounds_toArray, List.set_cons_succ, List.set_cons_zero]
          refine wpAnyH_take (i := 38) (v := ?_) rfl (by kernel_rfl) (by kernel_rfl) (by kernel_rfl) (fun _ _ _ h => h) (Or.inl ⟨by rfl, ?_⟩) (by assumption) ?_
          rotate_left
          · (intro w' hSw; (try dsimp only at hSw); go_simp; (try (with_reducible rfl)))
          simp only [Act.put, List.getElem_toArray, List.getElem_cons_succ, List.getElem_cons_zero, List.setIfInBounds_toArray, List.set_cons_succ, List.set_cons_zero]
          refine wpAnyH_take (i := 39) (v := ?_) rfl (by kernel_rfl) (by kernel_rfl) (by kernel_rfl) (fun _ _ _ h => h) (Or.inl ⟨by rfl, ?_⟩) (by assumption) ?_
          rotate_left
          · (intro w' hSw; (try dsimp only at hSw); go_simp; (try (with_reducible rfl)))
          simp only [Act.put, List.getElem_toArray, List.getElem_cons_succ, List.getElem_cons_zero, List.setIfInBounds_toArray, List.set_cons_succ, List.set_cons_zero]
          refine wpAnyH_take (i := 40) (v := ?_) rfl (by kernel_rfl) (by kernel_rfl) (by kernel_rfl) (fun _ _ _ h => h) (Or.inl ⟨by rfl, ?_⟩) (by assumption) ?_
          rotate_left
          · (intro w' hSw; (try dsimp only at hSw); go_simp; (try (with_reducible rfl)))
          simp only [Act.put, List.getElem_toArray, List.getElem_cons_succ, List.getElem_cons_zero, List.setIfInBounds_toArray, List.set_cons_succ, List.set_cons_zero]
          refine wpAnyH_take (i := 41) (v := ?_) rfl (by kernel_rfl) (by kernel_rfl) (by kernel_rfl) (fun _ _ _ h => h) (Or.inl ⟨by rfl, ?_⟩) (by assumption) ?_
          rotate_left
          · (intro w' hSw; (try dsimp only at hSw); go_simp; (try (with_reducible rfl)))
          simp only [Act.put, List.getElem_toArray, List.getElem_cons_succ, List.getElem_cons_zero, List.setIfInBounds_toArray, List.set_cons_succ, List.set_cons_zero]
          refine wpAnyH_take (i := 42) (v := ?_) rfl (by kernel_rfl) (by kernel_rfl) (by kernel_rfl) (fun _ _ _ h => h) (Or.inl ⟨by rfl, ?_⟩) (by assumption) ?_
          rotate_left
          · (intro w' hSw; (try dsimp only at hSw); go_simp; (try (with_reducible rfl)))
          simp only [Act.put, List.getElem_toArray, List.getElem_cons_succ, List.getElem_cons_zero, List.setIfInBounds_toArray, List.set_cons_succ, List.set_cons_zero]
          refine wpAnyH_take (i := 43) (v := ?_) rfl (by kernel_rfl) (by kernel_rfl) (by kernel_rfl) (fun _ _ _ h => h) (Or.inl ⟨by rfl, ?_⟩) (by assumption) ?_
          rotate_left
          · (intro w' hSw; (try dsimp only at hSw); go_simp; (try (with_reducible rfl)))
          simp only [Act.put, List.getElem_toArray, List.getElem_cons_succ, List.getElem_cons_zero, List.setIfInBounds_toArray, List.set_cons_succ, List.set_cons_zero]
          refine wpAnyH_take (i := 44) (v := ?_) rfl (by kernel_rfl) (by kernel_rfl) (by kernel_rfl) (fun _ _ _ h => h) (Or.inl ⟨by rfl, ?_⟩) (by assumption) ?_
          rotate_left
          · (intro w' hSw; (try dsimp only at hSw); go_simp; (try (with_reducible rfl)))
          simp only [Act.put, List.getElem_toArray, List.getElem_cons_succ, List.getElem_cons_zero, List.setIfInBounds_toArray, List.set_cons_succ, List.set_cons_zero]
          refine wpAnyH_take (i := 45) (v := ?_) rfl (by kernel_rfl) (by kernel_rfl) (by kernel_rfl) (fun _ _ _ h => h) (Or.inl ⟨by rfl, ?_⟩) (by assumption) ?_
          rotate_left
          · (intro w' hSw; (try dsimp only at hSw); go_simp; (try (with_reducible rfl)))
          simp only [Act.put, List.getElem_toArray, List.getElem_cons_succ, List.getElem_cons_zero, List.setIfInBounds_toArray, List.set_cons_succ, List.set_cons_zero]
          refine wpAnyH_ready (rs := [46]) (by kernel_rfl) (by simp) ?_
          refine AllReadyH.cons rfl (fun K hK => ?_) AllReadyH.nil
          go_simp
          (go_at_call 23; refine (sign_not1 _).mono ?_; rintro e w4 ⟨rfl, hb4⟩; (try go_simp))
          refine hK.out _ _ ?_ (fun hHeld => ?_)
          · (try dsimp only); ((try go_split_ands); refine MK.out _ ?_; repeat (first | assumption | exact Below.refl _ _ | apply Below.drew | apply kb_alloc | refine keep_below ?_ hb4))
          clear hK K
          refine wpAnyH_take (i := 47) (v := ?_) rfl (by kernel_rfl) (by kernel_rfl) (by kernel_rfl) (fun _ _ _ h => h) (Or.inl ⟨by rfl, ?_⟩) (by assumption) ?_
          rotate_left
          · (intro w' hSw; (try dsimp only at hSw); go_simp; (try (with_reducible rfl)))
          simp only [Act.put, List.getElem_toArray, List.getElem_cons_succ, List.getElem_cons_zero, List.setIfInBounds_toArray, List.set_cons_succ, List.set_cons_zero]
          refine wpAnyH_take (i := 48) (v := ?_) rfl (by kernel_rfl) (by kernel_rfl) (by kernel_rfl) (fun _ _ _ h => h) (Or.inl ⟨by rfl, ?_⟩) (by assumption) ?_
          rotate_left
          · (intro w' hSw; (try dsimp only at hSw); go_simp; (try (with_reducible rfl)))
          simp only [Act.put, List.getElem_toArray, List.getElem_cons_succ, List.getElem_cons_zero, List.setIfInBounds_toArray, List.set_cons_succ, List.set_cons_zero]
          refine wpAnyH_take (i := 49) (v := ?_) rfl (by kernel_rfl) (by kernel_rfl) (by kernel_rfl) (fun _ _ _ h => h) (Or.inl ⟨by rfl, ?_⟩) (by assumption) ?_
          rotate_left
          · (intro w' hSw; (try dsimp only at hSw); go_simp; (try (with_reducible rfl)))
          simp only [Act.put, List.getElem_toArray, List.getElem_cons_succ, List.getElem_cons_zero, List.setIfInBounds_toArray, List.set_cons_succ, List.set_cons_zero]
          refine wpAnyH_take (i := 50) (v := ?_) rfl (by kernel_rfl) (by kernel_rfl) (by kernel_rfl) (fun _ _ _ h => h) (Or.inl ⟨by rfl, ?_⟩) (by assumption) ?_
          rotate_left
          · (intro w' hSw; (try dsimp only at hSw); go_simp; (try (with_reducible rfl)))
          simp only [Act.put, List.getElem_toArray, List.getElem_cons_succ, List.getElem_cons_zero, List.setIfInBounds_toArray, List.set_cons_succ, List.set_cons_zero]
          refine wpAnyH_take (i := 51) (v := ?_) rfl (by kernel_rfl) (by kernel_rfl) (by kernel_rfl) (fun _ _ _ h => h) (Or.inl ⟨by rfl, ?_⟩) (by assumption) ?_
          rotate_left
          · (intro w' hSw; (try dsimp only at hSw); go_simp; (try (with_reducible rfl)))
          simp only [Act.put, List.getElem_toArray, List.getElem_cons_succ, List.getElem_cons_zero, List.setIfInBounds_toArray, List.set_cons_succ, List.set_cons_zero]
          refine wpAnyH_take (i := 52) (v := ?_) rfl (by kernel_rfl) (by kernel_rfl) (by kernel_rfl) (fun _ _ _ h => h) (Or.inl ⟨by rfl, ?_⟩) (by assumption) ?_
          rotate_left
          · (intro w' hSw; (try dsimp only at hSw); go_simp; (try (with_reducible rfl)))
          simp only [Act.put, List.getElem_toArray, List.getElem_cons_succ, List.getElem_cons_zero, List.setIfInBounds_toArray, List.set_cons_succ, List.set_cons_zero]
          refine wpAnyH_take (i := 53) (v := ?_) rfl (by kernel_rfl) (by kernel_rfl) (by kernel_rfl) (fun _ _ _ h => h) (Or.inl ⟨by rfl, ?_⟩) (by assumption) ?_
          rotate_left
          · (intro w' hSw; (try dsimp only at hSw); go_simp; (try (with_reducible rfl)))
          simp only [Act.put, List.getElem_toArray, List.getElem_cons_succ, List.getElem_cons_zero, List.setIfInBounds_toArray, List.set_cons_succ, List.set_cons_zero]
          refine wpAnyH_take (i := 54) (v := ?_) rfl (by kernel_rfl) (by kernel_rfl) (by kernel_rfl) (fun _ _ _ h => h) (Or.inl ⟨by rfl, ?_⟩) (by assumption) ?_
          rotate_left
          · (intro w' hSw; (try dsimp only at hSw); go_simp; (try (with_reducible rfl)))
          simp only [Act.put, List.getElem_toArray, List.getElem_cons_succ, List.getElem_cons_zero, List.setIfInBounds_toArray, List.set_cons_succ, List.set_cons_zero]
          refine wpAnyH_take (i := 55) (v := ?_) rfl (by kernel_rfl) (by kernel_rfl) (by kernel_rfl) (fun _ _ _ h => h) (Or.inl ⟨by rfl, ?_⟩) (by assumption) ?_
          rotate_left
          · (intro w' hSw; (try dsimp only at hSw); go_simp; (try (with_reducible rfl)))
          simp only [Act.put, List.getElem_toArray, List.getElem_cons_succ, List.getElem_cons_zero, List.setIfInBounds_toArray, List.set_cons_succ, List.set_cons_zero]
          refine wpAnyH_take (i := 56) (v := ?_) rfl (by kernel_rfl) (by kernel_rfl) (by kernel_rfl) (fun _ _ _ h => h) (Or.inl ⟨by rfl, ?_⟩) (by assumption) ?_
          rotate_left
          · (intro w' hSw; (try dsimp only at hSw); go_simp; (try (with_reducible rfl)))
          simp only [Act.put, List.getElem_toArray, List.getElem_cons_succ, List.getElem_cons_zero, List.setIfInBounds_toArray, List.set_cons_succ, List.set_cons_zero]
          refine wpAnyH_take (i := 57) (v := ?_) rfl (by kernel_rfl) (by kernel_rfl) (by kernel_rfl) (fun _ _ _ h => h) (Or.inl ⟨by rfl, ?_⟩) (by assumption) ?_
          rotate_left
          · (intro w' hSw; (try dsimp only at hSw); go_simp; (try (with_reducible rfl)))
          simp only [Act.put, List.getElem_toArray, List.getElem_cons_succ, List.getElem_cons_zero, List.setIfInBounds_toArray, List.set_cons_succ, List.set_cons_zero]
          refine wpAnyH_take (i := 58) (v := ?_) rfl (by kernel_rfl) (by kernel_rfl) (by kernel_rfl) (fun _ _ _ h => h) (Or.inl ⟨by rfl, ?_⟩) (by assumption) ?_
          rotate_left
          · (intro w' hSw; (try dsimp only at hSw); go_simp; (try (with_reducible rfl)))
          simp only [Act.put, List.getElem_toArray, List.getElem_cons_succ, List.getElem_cons_zero, List.setIfInBounds_toArray, List.set_cons_succ, List.set_cons_zero]
          refine wpAnyH_done (by kernel_rfl) ?_ _
          have hb : Below W12.heap.size W12 w4 := (by assumption : w4.cell? ⟨x10.heap.size, 0, none⟩ = some (.int .i64 1) ∧ w4.cell? ⟨x10.heap.size, 1, none⟩ = some (.int .i64 (a)) ∧ w4.cell? ⟨x10.heap.size, 2, none⟩ = some (.string { data := #[] }) ∧ w4.cell? ⟨x2.heap.size, 0, none⟩ = some (.int .i64 1) ∧ w4.cell? ⟨x2.heap.size, 1, none⟩ = some (.int .i64 (a)) ∧ w4.cell? ⟨x2.heap.size, 2, none⟩ = some (.string { data := #[] }) ∧ w4.cell? ⟨x8.heap.size, 0, none⟩ = some (.int .i64 1) ∧ w4.cell? ⟨x8.heap.size, 1, none⟩ = some (.int .i64 (a.tmod b)) ∧ w4.cell? ⟨x8.heap.size, 2, none⟩ = some (.string { data := #[] }) ∧ w4.cell? ⟨x11.heap.size, 0, none⟩ = some (.int .i64 2) ∧ w4.cell? ⟨x11.heap.size, 1, none⟩ = some (.int .i64 0) ∧ w4.cell? ⟨x11.heap.size, 2, none⟩ = some (.string { data := #[] }) ∧ w4.cell? ⟨x12.heap.size, 0, none⟩ = some (.int .i64 2) ∧ w4.cell? ⟨x12.heap.size, 1, none⟩ = some (.int .i64 1) ∧ w4.cell? ⟨x12.heap.size, 2, none⟩ = some (.string { data := #[] }) ∧ Below W12.heap.size W12 w4).2.2.2.2.2.2.2.2.2.2.2.2.2.2.2
          replace d10 := keep_cell hb y1 d10
          replace d11 := keep_cell hb y1 d11
          replace d12 := keep_cell hb y1 d12
          replace y1 := Nat.lt_of_lt_of_le y1 hb.size
          replace d80 := keep_cell hb y8 d80
          replace d81 := keep_cell hb y8 d81
          replace d82 := keep_cell hb y8 d82
          replace y8 := Nat.lt_of_lt_of_le y8 hb.size
          replace d100 := keep_cell hb y10 d100
          replace d101 := keep_cell hb y10 d101
          replace d102 := keep_cell hb y10 d102
          replace y10 := Nat.lt_of_lt_of_le y10 hb.size
          replace d110 := keep_cell hb y11 d110
          replace d111 := keep_cell hb y11 d111
          replace d112 := keep_cell hb y11 d112
          replace y11 := Nat.lt_of_lt_of_le y11 hb.size
          replace d120 := keep_cell hb y12 d120
          replace d121 := keep_cell hb y12 d121
          replace d122 := keep_cell hb y12 d122
          replace y12 := Nat.lt_of_lt_of_le y12 hb.size
          replace B := keep_below B hb
          clear hb
          go_wp2
          go_ret
          exact ⟨rfl, B⟩
      · by_cases hl : a < b
        · skip
          have f1 : bN (decide (a < b)) = 1 := by simp [bN, hl]
          have f2 : bN (decide (b ≤ a)) = 0 := by simp [bN]; omega
          rw [f1] at d111
          rw [f2] at d121
          clear f1 f2
          have c4 : (a.tmod b == 0) = false := by simpa using c1
          have c5 : decide (a.tmod b < 0) = false := by simpa using c3
          have c6 : decide (a < 0) = false := by simpa using c2
          clear d20 d21 d22 y2
          clear d30 d31 d32 y3
          clear d40 d41 d42 y4
          clear d50 d51 d52 y5
          clear d60 d61 d62 y6
          clear d70 d71 d72 y7
          clear d90 d91 d92 y9
          have mk : ∀ w' : World, Below W12.heap.size W12 w' → (w'.cell? ⟨x10.heap.size, 0, none⟩ = some (.int .i64 1) ∧ w'.cell? ⟨x10.heap.size, 1, none⟩ = some (.int .i64 (a)) ∧ w'.cell? ⟨x10.heap.size, 2, none⟩ = some (.string { data := #[] }) ∧ w'.cell? ⟨x2.heap.size, 0, none⟩ = some (.int .i64 1) ∧ w'.cell? ⟨x2.heap.size, 1, none⟩ = some (.int .i64 (a)) ∧ w'.cell? ⟨x2.heap.size, 2, none⟩ = some (.string { data := #[] }) ∧ w'.cell? ⟨x8.heap.size, 0, none⟩ = some (.int .i64 1) ∧ w'.cell? ⟨x8.heap.size, 1, none⟩ = some (.int .i64 (a.tmod b)) ∧ w'.cell? ⟨x8.heap.size, 2, none⟩ = some (.string { data := #[] }) ∧ w'.cell? ⟨x11.heap.size, 0, none⟩ = some (.int .i64 2) ∧ w'.cell? ⟨x11.heap.size, 1, none⟩ = some (.int .i64 1) ∧ w'.cell? ⟨x11.heap.size, 2, none⟩ = some (.string { data := #[] }) ∧ w'.cell? ⟨x12.heap.size, 0, none⟩ = some (.int .i64 2) ∧ w'.cell? ⟨x12.heap.size, 1, none⟩ = some (.int .i64 0) ∧ w'.cell? ⟨x12.heap.size, 2, none⟩ = some (.string { data := #[] }) ∧ Below W12.heap.size W12 w') := fun w' h => ⟨keep_cell h y10 d100, keep_cell h y10 d101, keep_cell h y10 d102, keep_cell h y1 d10, keep_cell h y1 d11, keep_cell h y1 d12, keep_cell h y8 d80, keep_cell h y8 d81, keep_cell h y8 d82, keep_cell h y11 d110, keep_cell h y11 d111, keep_cell h y11 d112, keep_cell h y12 d120, keep_cell h y12 d121, keep_cell h y12 d122, h⟩
          have MK := Lib.hid mk
          clear mk
          refine wp_region_held_drew (S := fun w' => w'.cell? ⟨x10.heap.size, 0, none⟩ = some (.int .i64 1) ∧ w'.cell? ⟨x10.heap.size, 1, none⟩ = some (.int .i64 (a)) ∧ w'.cell? ⟨x10.heap.size, 2, none⟩ = some (.string { data := #[] }) ∧ w'.cell? ⟨x2.heap.size, 0, none⟩ = some (.int .i64 1) ∧ w'.cell? ⟨x2.heap.size, 1, none⟩ = some (.int .i64 (a)) ∧ w'.cell? ⟨x2.heap.size, 2, none⟩ = some (.string { data := #[] }) ∧ w'.cell? ⟨x8.heap.size, 0, none⟩ = some (.int .i64 1) ∧ w'.cell? ⟨x8.heap.size, 1, none⟩ = some (.int .i64 (a.tmod b)) ∧ w'.cell? ⟨x8.heap.size, 2, none⟩ = some (.string { data := #[] }) ∧ w'.cell? ⟨x11.heap.size, 0, none⟩ = some (.int .i64 2) ∧ w'.cell? ⟨x11.heap.size, 1, none⟩ = some (.int .i64 1) ∧ w'.cell? ⟨x11.heap.size, 2, none⟩ = some (.string { data := #[] }) ∧ w'.cell? ⟨x12.heap.size, 0, none⟩ = some (.int .i64 2) ∧ w'.cell? ⟨x12.heap.size, 1, none⟩ = some (.int .i64 0) ∧ w'.cell? ⟨x12.heap.size, 2, none⟩ = some (.string { data := #[] }) ∧ Below W12.heap.size W12 w') (by kernel_rfl) (MK.out _ (Below.drew (Below.refl _ _))) (fun hHeld => ?_)
          refine wpAnyH_take (i := 0) (v := ?_) rfl (by kernel_rfl) (by kernel_rfl) (by kernel_rfl) (fun _ _ _ h => h) (Or.inl ⟨by rfl, ?_⟩) (by assumption) ?_
          rotate_left
          · (intro w' hSw; (try dsimp only at hSw); go_simp; (try (with_reducible rfl)))
          simp only [Act.put, List.getElem_toArray, List.getElem_cons_zero, List.setIfInBounds_toArray, List.set_cons_succ, List.set_cons_zero]
          refine wpAnyH_take (i := 1) (v := ?_) rfl (by kernel_rfl) (by kernel_rfl) (by kernel_rfl) (fun _ _ _ h => h) (Or.inl ⟨by rfl, ?_⟩) (by assumption) ?_
          rotate_left
          · (intro w' hSw; (try dsimp only at hSw); go_simp; (try (with_reducible rfl)))
          simp only [Act.put, List.getElem_toArray, List.getElem_cons_succ, List.getElem_cons_zero, List.setIfInBounds_toArray, List.set_cons_succ, List.set_cons_zero]
          refine wpAnyH_take (i := 2) (v := ?_) rfl (by kernel_rfl) (by kernel_rfl) (by kernel_rfl) (fun _ _ _ h => h) (Or.inl ⟨by rfl, ?_⟩) (by assumption) ?_
          rotate_left
          · (intro w' hSw; (try dsimp only at hSw); go_simp; (try (with_reducible rfl)))
          simp only [Act.put, List.getElem_toArray, List.getElem_cons_succ, List.getElem_cons_zero, List.setIfInBounds_toArray, List.set_cons_succ, List.set_cons_zero]
          refine wpAnyH_take (i := 3) (v := ?_) rfl (by kernel_rfl) (by kernel_rfl) (by kernel_rfl) (fun _ _ _ h => h) (Or.inl ⟨by rfl, ?_⟩) (by assumption) ?_
          rotate_left
          · (intro w' hSw; (try dsimp only at hSw); go_simp; (try (with_reducible rfl)))
          simp only [Act.put, List.getElem_toArray, List.getElem_cons_succ, List.getElem_cons_zero, List.setIfInBounds_toArray, List.set_cons_succ, List.set_cons_zero]
          refine wpAnyH_take (i := 4) (v := ?_) rfl (by kernel_rfl) (by kernel_rfl) (by kernel_rfl) (fun _ _ _ h => h) (Or.inl ⟨by rfl, ?_⟩) (by assumption) ?_
          rotate_left
          · (intro w' hSw; (try dsimp only at hSw); go_simp; (try (with_reducible rfl)))
          simp only [Act.put, List.getElem_toArray, List.getElem_cons_succ, List.getElem_cons_zero, List.setIfInBounds_toArray, List.set_cons_succ, List.set_cons_zero]
          refine wpAnyH_take (i := 5) (v := ?_) rfl (by kernel_rfl) (by kernel_rfl) (by kernel_rfl) (fun _ _ _ h => h) (Or.inl ⟨by rfl, ?_⟩) (by assumption) ?_
          rotate_left
          · (intro w' hSw; (try dsimp only at hSw); go_simp; (try (with_reducible rfl)))
          simp only [Act.put, List.getElem_toArray, List.getElem_cons_succ, List.getElem_cons_zero, List.setIfInBounds_toArray, List.set_cons_succ, List.set_cons_zero]
          refine wpAnyH_take (i := 6) (v := ?_) rfl (by kernel_rfl) (by kernel_rfl) (by kernel_rfl) (fun _ _ _ h => h) (Or.inl ⟨by rfl, ?_⟩) (by assumption) ?_
          rotate_left
          · (intro w' hSw; (try dsimp only at hSw); go_simp; (try (with_reducible rfl)))
          simp only [Act.put, List.getElem_toArray, List.getElem_cons_succ, List.getElem_cons_zero, List.setIfInBounds_toArray, List.set_cons_succ, List.set_cons_zero]
          refine wpAnyH_take (i := 7) (v := ?_) rfl (by kernel_rfl) (by kernel_rfl) (by kernel_rfl) (fun _ _ _ h => h) (Or.inl ⟨by rfl, ?_⟩) (by assumption) ?_
          rotate_left
          · (intro w' hSw; (try dsimp only at hSw); go_simp; (try (with_reducible rfl)))
          simp only [Act.put, List.getElem_toArray, List.getElem_cons_succ, List.getElem_cons_zero, List.setIfInBounds_toArray, List.set_cons_succ, List.set_cons_zero]
          refine wpAnyH_take (i := 8) (v := ?_) rfl (by kernel_rfl) (by kernel_rfl) (by kernel_rfl) (fun _ _ _ h => h) (Or.inl ⟨by rfl, ?_⟩) (by assumption) ?_
          rotate_left
          · (intro w' hSw; (try dsimp only at hSw); go_simp; (try (with_reducible rfl)))
          simp only [Act.put, List.getElem_toArray, List.getElem_cons_succ, List.getElem_cons_zero, List.setIfInBounds_toArray, List.set_cons_succ, List.set_cons_zero]
          refine wpAnyH_take (i := 9) (v := ?_) rfl (by kernel_rfl) (by kernel_rfl) (by kernel_rfl) (fun _ _ _ h => h) (Or.inl ⟨by rfl, ?_⟩) (by assumption) ?_
          rotate_left
          · (intro w' hSw; (try dsimp only at hSw); go_simp; (try (with_reducible rfl)))
          simp only [Act.put, List.getElem_toArray, List.getElem_cons_succ, List.getElem_cons_zero, List.setIfInBounds_toArray, List.set_cons_succ, List.set_cons_zero]
          refine wpAnyH_take (i := 10) (v := ?_) rfl (by kernel_rfl) (by kernel_rfl) (by kernel_rfl) (fun _ _ _ h => h) (Or.inl ⟨by rfl, ?_⟩) (by assumption) ?_
          rotate_left
          · (intro w' hSw; (try dsimp only at hSw); go_simp; (try (with_reducible rfl)))
          simp only [Act.put, List.getElem_toArray, List.getElem_cons_succ, List.getElem_cons_zero, List.setIfInBounds_toArray, List.set_cons_succ, List.set_cons_zero]
          refine wpAnyH_take (i := 11) (v := ?_) rfl (by kernel_rfl) (by kernel_rfl) (by kernel_rfl) (fun _ _ _ h => h) (Or.inl ⟨by rfl, ?_⟩) (by assumption) ?_
          rotate_left
          · (intro w' hSw; (try dsimp only at hSw); go_simp; (try (with_reducible rfl)))
          simp only [Act.put, List.getElem_toArray, List.getElem_cons_succ, List.getElem_cons_zero, List.setIfInBounds_toArray, List.set_cons_succ, List.set_cons_zero]
          refine wpAnyH_take (i := 12) (v := ?_) rfl (by kernel_rfl) (by kernel_rfl) (by kernel_rfl) (fun _ _ _ h => h) (Or.inl ⟨by rfl, ?_⟩) (by assumption) ?_
          rotate_left
          · (intro w' hSw; (try dsimp only at hSw); go_simp; (try (with_reducible rfl)))
          simp only [Act.put, List.getElem_toArray, List.getElem_cons_succ, List.getElem_cons_zero, List.setIfInBounds_toArray, List.set_cons_succ, List.set_cons_zero]
          refine wpAnyH_take (i := 13) (v := ?_) rfl (by kernel_rfl) (by kernel_rfl) (by kernel_rfl) (fun _ _ _ h => h) (Or.inl ⟨by rfl, ?_⟩) (by assumption) ?_
          rotate_left
          · (intro w' hSw; (try dsimp only at hSw); go_simp; (try (with_reducible rfl)))
          simp only [Act.put, List.getElem_toArray, List.getElem_cons_succ, List.getElem_cons_zero, List.setIfInBounds_toArray, List.set_cons_succ, List.set_cons_zero]
          refine wpAnyH_take (i := 14) (v := ?_) rfl (by kernel_rfl) (by kernel_rfl) (by kernel_rfl) (fun _ _ _ h => h) (Or.inl ⟨by rfl, ?_⟩) (by assumption) ?_
          rotate_left
          · (intro w' hSw; (try dsimp only at hSw); go_simp; (try (with_reducible rfl)))
          simp only [Act.put, List.getElem_toArray, List.getElem_cons_succ, List.getElem_cons_zero, List.setIfInBounds_toArray, List.set_cons_succ, List.set_cons_zero]
          refine wpAnyH_take (i := 15) (v := ?_) rfl (by kernel_rfl) (by kernel_rfl) (by kernel_rfl) (fun _ _ _ h => h) (Or.inl ⟨by rfl, ?_⟩) (by assumption) ?_
          rotate_left
          · (intro w' hSw; (try dsimp only at hSw); go_simp; (try (with_reducible rfl)))
          simp only [Act.put, List.getElem_toArray, List.getElem_cons_succ, List.getElem_cons_zero, List.setIfInBounds_toArray, List.set_cons_succ, List.set_cons_zero]
          refine wpAnyH_take (i := 16) (v := ?_) rfl (by kernel_rfl) (by kernel_rfl) (by kernel_rfl) (fun _ _ _ h => h) (Or.inl ⟨by rfl, ?_⟩) (by assumption) ?_
          rotate_left
          · (intro w' hSw; (try dsimp only at hSw); go_simp; (try (with_reducible rfl)))
          simp only [Act.put, List.getElem_toArray, List.getElem_cons_succ, List.getElem_cons_zero, List.setIfInBounds_toArray, List.set_cons_succ, List.set_cons_zero]
          refine wpAnyH_take (i := 17) (v := ?_) rfl (by kernel_rfl) (by kernel_rfl) (by kernel_rfl) (fun _ _ _ h => h) (Or.inl ⟨by rfl, ?_⟩) (by assumption) ?_
          rotate_left
          · (intro w' hSw; (try dsimp only at hSw); go_simp; (try (with_reducible rfl)))
          simp only [Act.put, List.getElem_toArray, List.getElem_cons_succ, List.getElem_cons_zero, List.setIfInBounds_toArray, List.set_cons_succ, List.set_cons_zero]
          refine wpAnyH_take (i := 18) (v := ?_) rfl (by kernel_rfl) (by kernel_rfl) (by kernel_rfl) (fun _ _ _ h => h) (Or.inl ⟨by rfl, ?_⟩) (by assumption) ?_
          rotate_left
          · (intro w' hSw; (try dsimp only at hSw); go_simp; (try (with_reducible rfl)))
          simp only [Act.put, List.getElem_toArray, List.getElem_cons_succ, List.getElem_cons_zero, List.setIfInBounds_toArray, List.set_cons_succ, List.set_cons_zero]
          refine wpAnyH_take (i := 19) (v := ?_) rfl (by kernel_rfl) (by kernel_rfl) (by kernel_rfl) (fun _ _ _ h => h) (Or.inl ⟨by rfl, ?_⟩) (by assumption) ?_
          rotate_left
          · (intro w' hSw; (try dsimp only at hSw); go_simp; (try (with_reducible rfl)))
          simp only [Act.put, List.getElem_toArray, List.getElem_cons_succ, List.getElem_cons_zero, List.setIfInBounds_toArray, List.set_cons_succ, List.set_cons_zero]
          refine wpAnyH_take (i := 20) (v := ?_) rfl (by kernel_rfl) (by kernel_rfl) (by kernel_rfl) (fun _ _ _ h => h) (Or.inl ⟨by rfl, ?_⟩) (by assumption) ?_
          rotate_left
          · (intro w' hSw; (try dsimp only at hSw); go_simp; (try (with_reducible rfl)))
          simp only [Act.put, List.getElem_toArray, List.getElem_cons_succ, List.getElem_cons_zero, List.setIfInBounds_toArray, List.set_cons_succ, List.set_cons_zero]
          refine wpAnyH_take (i := 21) (v := ?_) rfl (by kernel_rfl) (by kernel_rfl) (by kernel_rfl) (fun _ _ _ h => h) (Or.inl ⟨by rfl, ?_⟩) (by assumption) ?_
          rotate_left
          · (intro w' hSw; (try dsimp only at hSw); go_simp; (try (with_reducible rfl)))
          simp only [Act.put, List.getElem_toArray, List.getElem_cons_succ, List.getElem_cons_zero, List.setIfInBounds_toArray, List.set_cons_succ, List.set_cons_zero]
          refine wpAnyH_take (i := 22) (v := ?_) rfl (by kernel_rfl) (by kernel_rfl) (by kernel_rfl) (fun _ _ _ h => h) (Or.inl ⟨by rfl, ?_⟩) (by assumption) ?_
          rotate_left
          · (intro w' hSw; (try dsimp only at hSw); go_simp; (try (with_reducible rfl)))
          simp only [Act.put, List.getElem_toArray, List.getElem_cons_succ, List.getElem_cons_zero, List.setIfInBounds_toArray, List.set_cons_succ, List.set_cons_zero]
          refine wpAnyH_take (i := 23) (v := ?_) rfl (by kernel_rfl) (by kernel_rfl) (by kernel_rfl) (fun _ _ _ h => h) (Or.inl ⟨by rfl, ?_⟩) (by assumption) ?_
          rotate_left
          · (intro w' hSw; (try dsimp only at hSw); go_simp; (try (with_reducible rfl)))
          simp only [Act.put, List.getElem_toArray, List.getElem_cons_succ, List.getElem_cons_zero, List.setIfInBounds_toArray, List.set_cons_succ, List.set_cons_zero]
          refine wpAnyH_take (i := 24) (v := ?_) rfl (by kernel_rfl) (by kernel_rfl) (by kernel_rfl) (fun _ _ _ h => h) (Or.inl ⟨by rfl, ?_⟩) (by assumption) ?_
          rotate_left
          · (intro w' hSw; (try dsimp only at hSw); go_simp; (try (with_reducible rfl)))
          simp only [Act.put, List.getElem_toArray, List.getElem_cons_succ, List.getElem_cons_zero, List.setIfInBounds_toArray, List.set_cons_succ, List.set_cons_zero]
          refine wpAnyH_take (i := 25) (v := ?_) rfl (by kernel_rfl) (by kernel_rfl) (by kernel_rfl) (fun _ _ _ h => h) (Or.inl ⟨by rfl, ?_⟩) (by assumption) ?_
          rotate_left
          · (intro w' hSw; (try dsimp only at hSw); go_simp; (try (with_reducible rfl)))
          simp only [Act.put, List.getElem_toArray, List.getElem_cons_succ, List.getElem_cons_zero, List.setIfInBounds_toArray, List.set_cons_succ, List.set_cons_zero]
          refine wpAnyH_take (i := 26) (v := ?_) rfl (by kernel_rfl) (by kernel_rfl) (by kernel_rfl) (fun _ _ _ h => h) (Or.inl ⟨by rfl, ?_⟩) (by assumption) ?_
          rotate_left
          · (intro w' hSw; (try dsimp only at hSw); go_simp; (try (with_reducible rfl)))
          simp only [Act.put, List.getElem_toArray, List.getElem_cons_succ, List.getElem_cons_zero, List.setIfInBounds_toArray, List.set_cons_succ, List.set_cons_zero]
          refine wpAnyH_take (i := 27) (v := ?_) rfl (by kernel_rfl) (by kernel_rfl) (by kernel_rfl) (fun _ _ _ h => h) (Or.inl ⟨by rfl, ?_⟩) (by assumption) ?_
          rotate_left
          · (intro w' hSw; (try dsimp only at hSw); go_simp; (try (with_reducible rfl)))
          simp only [Act.put, List.getElem_toArray, List.getElem_cons_succ, List.getElem_cons_zero, List.setIfInBounds_toArray, List.set_cons_succ, List.set_cons_zero]
          refine wpAnyH_take (i := 28) (v := ?_) rfl (by kernel_rfl) (by kernel_rfl) (by kernel_rfl) (fun _ _ _ h => h) (Or.inl ⟨by rfl, ?_⟩) (by assumption) ?_
          rotate_left
          · (intro w' hSw; (try dsimp only at hSw); go_simp; (try (with_reducible rfl)))
          simp only [Act.put, List.getElem_toArray, List.getElem_cons_succ, List.getElem_cons_zero, List.setIfInBounds_toArray, List.set_cons_succ, List.set_cons_zero]
          refine wpAnyH_take (i := 29) (v := ?_) rfl (by kernel_rfl) (by kernel_rfl) (by kernel_rfl) (fun _ _ _ h => h) (Or.inl ⟨by rfl, ?_⟩) (by assumption) ?_
          rotate_left
          · (intro w' hSw; (try dsimp only at hSw); go_simp; (try (with_reducible rfl)))
          simp only [Act.put, List.getElem_toArray, List.getElem_cons_succ, List.getElem_cons_zero, List.setIfInBounds_toArray, List.set_cons_succ, List.set_cons_zero]
          refine wpAnyH_take (i := 30) (v := ?_) rfl (by kernel_rfl) (by kernel_rfl) (by kernel_rfl) (fun _ _ _ h => h) (Or.inl ⟨by rfl, ?_⟩) (by assumption) ?_
          rotate_left
          · (intro w' hSw; (try dsimp only at hSw); go_simp; (try (with_reducible rfl)))
          simp only [Act.put, List.getElem_toArray, List.getElem_cons_succ, List.getElem_cons_zero, List.setIfInBounds_toArray, List.set_cons_succ, List.set_cons_zero]
          refine wpAnyH_take (i := 31) (v := ?_) rfl (by kernel_rfl) (by kernel_rfl) (by kernel_rfl) (fun _ _ _ h => h) (Or.inl ⟨by rfl, ?_⟩) (by assumption) ?_
          rotate_left
          · (intro w' hSw; (try dsimp only at hSw); go_simp; (try (with_reducible rfl)))
          simp only [Act.put, List.getElem_toArray, List.getElem_cons_succ, List.getElem_cons_zero, List.setIfInBounds_toArray, List.set_cons_succ, List.set_cons_zero]
          refine wpAnyH_take (i := 32) (v := ?_) rfl (by kernel_rfl) (by kernel_rfl) (by kernel_rfl) (fun _ _ _ h => h) (Or.inl ⟨by rfl, ?_⟩) (by assumption) ?_
          rotate_left
          · (intro w' hSw; (try dsimp only at hSw); go_simp; (try (with_reducible rfl)))
          simp only [Act.put, List.getElem_toArray, List.getElem_cons_succ, List.getElem_cons_zero, List.setIfInBounds_toArray, List.set_cons_succ, List.set_cons_zero]
          refine wpAnyH_take (i := 33) (v := ?_) rfl (by kernel_rfl) (by kernel_rfl) (by kernel_rfl) (fun _ _ _ h => h) (Or.inl ⟨by rfl, ?_⟩) (by assumption) ?_
          rotate_left
          · (intro w' hSw; (try dsimp only at hSw); go_simp; (try (with_reducible rfl)))
          simp only [Act.put, List.getElem_toArray, List.getElem_cons_succ, List.getElem_cons_zero, List.setIfInBounds_toArray, List.set_cons_succ, List.set_cons_zero]
          refine wpAnyH_take (i := 34) (v := ?_) rfl (by kernel_rfl) (by kernel_rfl) (by kernel_rfl) (fun _ _ _ h => h) (Or.inl ⟨by rfl, ?_⟩) (by assumption) ?_
          rotate_left
          · (intro w' hSw; (try dsimp only at hSw); go_simp; (try (with_reducible rfl)))
          simp only [Act.put, List.getElem_toArray, List.getElem_cons_succ, List.getElem_cons_zero, List.setIfInBounds_toArray, List.set_cons_succ, List.set_cons_zero]
          refine wpAnyH_take (i := 35) (v := ?_) rfl (by kernel_rfl) (by kernel_rfl) (by kernel_rfl) (fun _ _ _ h => h) (Or.inl ⟨by rfl, ?_⟩) (by assumption) ?_
          rotate_left
          · (intro w' hSw; (try dsimp only at hSw); go_simp; (try (with_reducible rfl)))
          simp only [Act.put, List.getElem_toArray, List.getElem_cons_succ, List.getElem_cons_zero, List.setIfInBounds_toArray, List.set_cons_succ, List.set_cons_zero]
          refine wpAnyH_take (i := 36) (v := ?_) rfl (by kernel_rfl) (by kernel_rfl) (by kernel_rfl) (fun _ _ _ h => h) (Or.inl ⟨by rfl, ?_⟩) (by assumption) ?_
          rotate_left
          · (intro w' hSw; (try dsimp only at hSw); go_simp; (try (with_reducible rfl)))
          simp only [Act.put, List.getElem_toArray, List.getElem_cons_succ, List.getElem_cons_zero, List.setIfInBounds_toArray, List.set_cons_succ, List.set_cons_zero]
          refine wpAnyH_take (i := 37) (v := ?_) rfl (by kernel_rfl) (by kernel_rfl) (by kernel_rfl) (fun _ _ _ h => h) (Or.inl ⟨by rfl, ?_⟩) (by assumption) ?_
          rotate_left
          · (intro w' hSw; (try dsimp only at hSw); go_simp; (try (with_reducible rfl)))
          simp only [Act.put, List.getElem_toArray, List.getElem_cons_succ, List.getElem_cons_zero, List.setIfInBounds_toArray, List.set_cons_succ, List.set_cons_zero]
          refine wpAnyH_take (i := 38) (v := ?_) rfl (by kernel_rfl) (by kernel_rfl) (by kernel_rfl) (fun _ _ _ h => h) (Or.inl ⟨by rfl, ?_⟩) (by assumption) ?_
          rotate_left
          · (intro w' hSw; (try dsimp only at hSw); go_simp; (try (with_reducible rfl)))
          simp only [Act.put, List.getElem_toArray, List.getElem_cons_succ, List.getElem_cons_zero, List.setIfInBounds_toArray, List.set_cons_succ, List.set_cons_zero]
          refine wpAnyH_take (i := 39) (v := ?_) rfl (by kernel_rfl) (by kernel_rfl) (by kernel_rfl) (fun _ _ _ h => h) (Or.inl ⟨by rfl, ?_⟩) (by assumption) ?_
          rotate_left
          · (intro w' hSw; (try dsimp only at hSw); go_simp; (try (with_reducible rfl)))
          simp only [Act.put, List.getElem_toArray, List.getElem_cons_succ, List.getElem_cons_zero, List.setIfInBounds_toArray, List.set_cons_succ, List.set_cons_zero]
          refine wpAnyH_take (i := 40) (v := ?_) rfl (by kernel_rfl) (by kernel_rfl) (by kernel_rfl) (fun _ _ _ h => h) (Or.inl ⟨by rfl, ?_⟩) (by assumption) ?_
          rotate_left
          · (intro w' hSw; (try dsimp only at hSw); go_simp; (try (with_reducible rfl)))
          simp only [Act.put, List.getElem_toArray, List.getElem_cons_succ, List.getElem_cons_zero, List.setIfInBounds_toArray, List.set_cons_succ, List.set_cons_zero]
          refine wpAnyH_take (i := 41) (v := ?_) rfl (by kernel_rfl) (by kernel_rfl) (by kernel_rfl) (fun _ _ _ h => h) (Or.inl ⟨by rfl, ?_⟩) (by assumption) ?_
          rotate_left
          · (intro w' hSw; (try dsimp only at hSw); go_simp; (try (with_reducible rfl)))
          simp only [Act.put, List.getElem_toArray, List.getElem_cons_succ, List.getElem_cons_zero, List.setIfInBounds_toArray, List.set_cons_succ, List.set_cons_zero]
          refine wpAnyH_take (i := 42) (v := ?_) rfl (by kernel_rfl) (by kernel_rfl) (by kernel_rfl) (fun _ _ _ h => h) (Or.inl ⟨by rfl, ?_⟩) (by assumption) ?_
          rotate_left
          · (intro w' hSw; (try dsimp only at hSw); go_simp; (try (with_reducible rfl)))
          simp only [Act.put, List.getElem_toArray, List.getElem_cons_succ, List.getElem_cons_zero, List.setIfInBounds_toArray, List.set_cons_succ, List.set_cons_zero]
          refine wpAnyH_take (i := 43) (v := ?_) rfl (by kernel_rfl) (by kernel_rfl) (by kernel_rfl) (fun _ _ _ h => h) (Or.inl ⟨by rfl, ?_⟩) (by assumption) ?_
          rotate_left
          · (intro w' hSw; (try dsimp only at hSw); go_simp; (try (with_reducible rfl)))
          simp only [Act.put, List.getElem_toArray, List.getElem_cons_succ, List.getElem_cons_zero, List.setIfInBounds_toArray, List.set_cons_succ, List.set_cons_zero]
          refine wpAnyH_take (i := 44) (v := ?_) rfl (by kernel_rfl) (by kernel_rfl) (by kernel_rfl) (fun _ _ _ h => h) (Or.inl ⟨by rfl, ?_⟩) (by assumption) ?_
          rotate_left
          · (intro w' hSw; (try dsimp only at hSw); go_simp; (try (with_reducible rfl)))
          simp only [Act.put, List.getElem_toArray, List.getElem_cons_succ, List.getElem_cons_zero, List.setIfInBounds_toArray, List.set_cons_succ, List.set_cons_zero]
          refine wpAnyH_take (i := 45) (v := ?_) rfl (by kernel_rfl) (by kernel_rfl) (by kernel_rfl) (fun _ _ _ h => h) (Or.inl ⟨by rfl, ?_⟩) (by assumption) ?_
          rotate_left
          · (intro w' hSw; (try dsimp only at hSw); go_simp; (try (with_reducible rfl)))
          simp only [Act.put, List.getElem_toArray, List.getElem_cons_succ, List.getElem_cons_zero, List.setIfInBounds_toArray, List.set_cons_succ, List.set_cons_zero]
          refine wpAnyH_ready (rs := [46]) (by kernel_rfl) (by simp) ?_
          refine AllReadyH.cons rfl (fun K hK => ?_) AllReadyH.nil
          go_simp
          (go_at_call 23; refine (sign_not0 _).mono ?_; rintro e w4 ⟨rfl, hb4⟩; (try go_simp))
          refine hK.out _ _ ?_ (fun hHeld => ?_)
          · (try dsimp only); ((try go_split_ands); refine MK.out _ ?_; repeat (first | assumption | exact Below.refl _ _ | apply Below.drew | apply kb_alloc | refine keep_below ?_ hb4))
          clear hK K
          refine wpAnyH_take (i := 47) (v := ?_) rfl (by kernel_rfl) (by kernel_rfl) (by kernel_rfl) (fun _ _ _ h => h) (Or.inl ⟨by rfl, ?_⟩) (by assumption) ?_
          rotate_left
          · (intro w' hSw; (try dsimp only at hSw); go_simp; (try (with_reducible rfl)))
          simp only [Act.put, List.getElem_toArray, List.getElem_cons_succ, List.getElem_cons_zero, List.setIfInBounds_toArray, List.set_cons_succ, List.set_cons_zero]
          refine wpAnyH_take (i := 48) (v := ?_) rfl (by kernel_rfl) (by kernel_rfl) (by kernel_rfl) (fun _ _ _ h => h) (Or.inl ⟨by rfl, ?_⟩) (by assumption) ?_
          rotate_left
          · (intro w' hSw; (try dsimp only at hSw); go_simp; (try (with_reducible rfl)))
          simp only [Act.put, List.getElem_toArray, List.getElem_cons_succ, List.getElem_cons_zero, List.setIfInBounds_toArray, List.set_cons_succ, List.set_cons_zero]
          refine wpAnyH_take (i := 49) (v := ?_) rfl (by kernel_rfl) (by kernel_rfl) (by kernel_rfl) (fun _ _ _ h => h) (Or.inl ⟨by rfl, ?_⟩) (by assumption) ?_
          rotate_left
          · (intro w' hSw; (try dsimp only at hSw); go_simp; (try (with_reducible rfl)))
          simp only [Act.put, List.getElem_toArray, List.getElem_cons_succ, List.getElem_cons_zero, List.setIfInBounds_toArray, List.set_cons_succ, List.set_cons_zero]
          refine wpAnyH_take (i := 50) (v := ?_) rfl (by kernel_rfl) (by kernel_rfl) (by kernel_rfl) (fun _ _ _ h => h) (Or.inl ⟨by rfl, ?_⟩) (by assumption) ?_
          rotate_left
          · (intro w' hSw; (try dsimp only at hSw); go_simp; (try (with_reducible rfl)))
          simp only [Act.put, List.getElem_toArray, List.getElem_cons_succ, List.getElem_cons_zero, List.setIfInBounds_toArray, List.set_cons_succ, List.set_cons_zero]
          refine wpAnyH_take (i := 51) (v := ?_) rfl (by kernel_rfl) (by kernel_rfl) (by kernel_rfl) (fun _ _ _ h => h) (Or.inl ⟨by rfl, ?_⟩) (by assumption) ?_
          rotate_left
          · (intro w' hSw; (try dsimp only at hSw); go_simp; (try (with_reducible rfl)))
          simp only [Act.put, List.getElem_toArray, List.getElem_cons_succ, List.getElem_cons_zero, List.setIfInBounds_toArray, List.set_cons_succ, List.set_cons_zero]
          refine wpAnyH_take (i := 52) (v := ?_) rfl (by kernel_rfl) (by kernel_rfl) (by kernel_rfl) (fun _ _ _ h => h) (Or.inl ⟨by rfl, ?_⟩) (by assumption) ?_
          rotate_left
          · (intro w' hSw; (try dsimp only at hSw); go_simp; (try (with_reducible rfl)))
          simp only [Act.put, List.getElem_toArray, List.getElem_cons_succ, List.getElem_cons_zero, List.setIfInBounds_toArray, List.set_cons_succ, List.set_cons_zero]
          refine wpAnyH_take (i := 53) (v := ?_) rfl (by kernel_rfl) (by kernel_rfl) (by kernel_rfl) (fun _ _ _ h => h) (Or.inl ⟨by rfl, ?_⟩) (by assumption) ?_
          rotate_left
          · (intro w' hSw; (try dsimp only at hSw); go_simp; (try (with_reducible rfl)))
          simp only [Act.put, List.getElem_toArray, List.getElem_cons_succ, List.getElem_cons_zero, List.setIfInBounds_toArray, List.set_cons_succ, List.set_cons_zero]
          refine wpAnyH_take (i := 54) (v := ?_) rfl (by kernel_rfl) (by kernel_rfl) (by kernel_rfl) (fun _ _ _ h => h) (Or.inl ⟨by rfl, ?_⟩) (by assumption) ?_
          rotate_left
          · (intro w' hSw; (try dsimp only at hSw); go_simp; (try (with_reducible rfl)))
          simp only [Act.put, List.getElem_toArray, List.getElem_cons_succ, List.getElem_cons_zero, List.setIfInBounds_toArray, List.set_cons_succ, List.set_cons_zero]
          refine wpAnyH_take (i := 55) (v := ?_) rfl (by kernel_rfl) (by kernel_rfl) (by kernel_rfl) (fun _ _ _ h => h) (Or.inl ⟨by rfl, ?_⟩) (by assumption) ?_
          rotate_left
          · (intro w' hSw; (try dsimp only at hSw); go_simp; (try (with_reducible rfl)))
          simp only [Act.put, List.getElem_toArray, List.getElem_cons_succ, List.getElem_cons_zero, List.setIfInBounds_toArray, List.set_cons_succ, List.set_cons_zero]
          refine wpAnyH_take (i := 56) (v := ?_) rfl (by kernel_rfl) (by kernel_rfl) (by kernel_rfl) (fun _ _ _ h => h) (Or.inl ⟨by rfl, ?_⟩) (by assumption) ?_
          rotate_left
          · (intro w' hSw; (try dsimp only at hSw); go_simp; (try (with_reducible rfl)))
          simp only [Act.put, List.getElem_toArray, List.getElem_cons_succ, List.getElem_cons_zero, List.setIfInBounds_toArray, List.set_cons_succ, List.set_cons_zero]
          refine wpAnyH_take (i := 57) (v := ?_) rfl (by kernel_rfl) (by kernel_rfl) (by kernel_rfl) (fun _ _ _ h => h) (Or.inl ⟨by rfl, ?_⟩) (by assumption) ?_
          rotate_left
          · (intro w' hSw; (try dsimp only at hSw); go_simp; (try (with_reducible rfl)))
          simp only [Act.put, List.getElem_toArray, List.getElem_cons_succ, List.getElem_cons_zero, List.setIfInBounds_toArray, List.set_cons_succ, List.set_cons_zero]
          refine wpAnyH_take (i := 58) (v := ?_) rfl (by kernel_rfl) (by kernel_rfl) (by kernel_rfl) (fun _ _ _ h => h) (Or.inl ⟨by rfl, ?_⟩) (by assumption) ?_
          rotate_left
          · (intro w' hSw; (try dsimp only at hSw); go_simp; (try (with_reducible rfl)))
          simp only [Act.put, List.getElem_toArray, List.getElem_cons_succ, List.getElem_cons_zero, List.setIfInBounds_toArray, List.set_cons_succ, List.set_cons_zero]
          refine wpAnyH_done (by kernel_rfl) ?_ _
          have hb : Below W12.heap.size W12 w4 := (by assumption : w4.cell? ⟨x10.heap.size, 0, none⟩ = some (.int .i64 1) ∧ w4.cell? ⟨x10.heap.size, 1, none⟩ = some (.int .i64 (a)) ∧ w4.cell? ⟨x10.heap.size, 2, none⟩ = some (.string { data := #[] }) ∧ w4.cell? ⟨x2.heap.size, 0, none⟩ = some (.int .i64 1) ∧ w4.cell? ⟨x2.heap.size, 1, none⟩ = some (.int .i64 (a)) ∧ w4.cell? ⟨x2.heap.size, 2, none⟩ = some (.string { data := #[] }) ∧ w4.cell? ⟨x8.heap.size, 0, none⟩ = some (.int .i64 1) ∧ w4.cell? ⟨x8.heap.size, 1, none⟩ = some (.int .i64 (a.tmod b)) ∧ w4.cell? ⟨x8.heap.size, 2, none⟩ = some (.string { data := #[] }) ∧ w4.cell? ⟨x11.heap.size, 0, none⟩ = some (.int .i64 2) ∧ w4.cell? ⟨x11.heap.size, 1, none⟩ = some (.int .i64 1) ∧ w4.cell? ⟨x11.heap.size, 2, none⟩ = some (.string { data := #[] }) ∧ w4.cell? ⟨x12.heap.size, 0, none⟩ = some (.int .i64 2) ∧ w4.cell? ⟨x12.heap.size, 1, none⟩ = some (.int .i64 0) ∧ w4.cell? ⟨x12.heap.size, 2, none⟩ = some (.string { data := #[] }) ∧ Below W12.heap.size W12 w4).2.2.2.2.2.2.2.2.2.2.2.2.2.2.2
          replace d10 := keep_cell hb y1 d10
          replace d11 := keep_cell hb y1 d11
          replace d12 := keep_cell hb y1 d12
          replace y1 := Nat.lt_of_lt_of_le y1 hb.size
          replace d80 := keep_cell hb y8 d80
          replace d81 := keep_cell hb y8 d81
          replace d82 := keep_cell hb y8 d82
          replace y8 := Nat.lt_of_lt_of_le y8 hb.size
          replace d100 := keep_cell hb y10 d100
          replace d101 := keep_cell hb y10 d101
          replace d102 := keep_cell hb y10 d102
          replace y10 := Nat.lt_of_lt_of_le y10 hb.size
          replace d110 := keep_cell hb y11 d110
          replace d111 := keep_cell hb y11 d111
          replace d112 := keep_cell hb y11 d112
          replace y11 := Nat.lt_of_lt_of_le y11 hb.size
          replace d120 := keep_cell hb y12 d120
          replace d121 := keep_cell hb y12 d121
          replace d122 := keep_cell hb y12 d122
          replace y12 := Nat.lt_of_lt_of_le y12 hb.size
          replace B := keep_below B hb
          clear hb
          go_wp2
          go_ret
          exact ⟨rfl, B⟩
        · skip
          have f1 : bN (decide (a < b)) = 0 := by simp [bN]; omega
          have f2 : bN (decide (b ≤ a)) = 1 := by simp [bN]; omega
          rw [f1] at d111
          rw [f2] at d121
          clear f1 f2
          have c4 : (a.tmod b == 0) = false := by simpa using c1
          have c5 : decide (a.tmod b < 0) = false := by simpa using c3
          have c6 : decide (a < 0) = false := by simpa using c2
          have hl2 : decide (a < b) = false := by simpa using hl
          clear d20 d21 d22 y2
          clear d30 d31 d32 y3
          clear d40 d41 d42 y4
          clear d50 d51 d52 y5
          clear d60 d61 d62 y6
          clear d70 d71 d72 y7
          clear d90 d91 d92 y9
          have mk : ∀ w' : World, Below W12.heap.size W12 w' → (w'.cell? ⟨x10.heap.size, 0, none⟩ = some (.int .i64 1) ∧ w'.cell? ⟨x10.heap.size, 1, none⟩ = some (.int .i64 (a)) ∧ w'.cell? ⟨x10.heap.size, 2, none⟩ = some (.string { data := #[] }) ∧ w'.cell? ⟨x2.heap.size, 0, none⟩ = some (.int .i64 1) ∧ w'.cell? ⟨x2.heap.size, 1, none⟩ = some (.int .i64 (a)) ∧ w'.cell? ⟨x2.heap.size, 2, none⟩ = some (.string { data := #[] }) ∧ w'.cell? ⟨x8.heap.size, 0, none⟩ = some (.int .i64 1) ∧ w'.cell? ⟨x8.heap.size, 1, none⟩ = some (.int .i64 (a.tmod b)) ∧ w'.cell? ⟨x8.heap.size, 2, none⟩ = some (.string { data := #[] }) ∧ w'.cell? ⟨x11.heap.size, 0, none⟩ = some (.int .i64 2) ∧ w'.cell? ⟨x11.heap.size, 1, none⟩ = some (.int .i64 0) ∧ w'.cell? ⟨x11.heap.size, 2, none⟩ = some (.string { data := #[] }) ∧ w'.cell? ⟨x12.heap.size, 0, none⟩ = some (.int .i64 2) ∧ w'.cell? ⟨x12.heap.size, 1, none⟩ = some (.int .i64 1) ∧ w'.cell? ⟨x12.heap.size, 2, none⟩ = some (.string { data := #[] }) ∧ Below W12.heap.size W12 w') := fun w' h => ⟨keep_cell h y10 d100, keep_cell h y10 d101, keep_cell h y10 d102, keep_cell h y1 d10, keep_cell h y1 d11, keep_cell h y1 d12, keep_cell h y8 d80, keep_cell h y8 d81, keep_cell h y8 d82, keep_cell h y11 d110, keep_cell h y11 d111, keep_cell h y11 d112, keep_cell h y12 d120, keep_cell h y12 d121, keep_cell h y12 d122, h⟩
          have MK := Lib.hid mk
          clear mk
          refine wp_region_held_drew (S := fun w' => w'.cell? ⟨x10.heap.size, 0, none⟩ = some (.int .i64 1) ∧ w'.cell? ⟨x10.heap.size, 1, none⟩ = some (.int .i64 (a)) ∧ w'.cell? ⟨x10.heap.size, 2, none⟩ = some (.string { data := #[] }) ∧ w'.cell? ⟨x2.heap.size, 0, none⟩ = some (.int .i64 1) ∧ w'.cell? ⟨x2.heap.size, 1, none⟩ = some (.int .i64 (a)) ∧ w'.cell? ⟨x2.heap.size, 2, none⟩ = some (.string { data := #[] }) ∧ w'.cell? ⟨x8.heap.size, 0, none⟩ = some (.int .i64 1) ∧ w'.cell? ⟨x8.heap.size, 1, none⟩ = some (.int .i64 (a.tmod b)) ∧ w'.cell? ⟨x8.heap.size, 2, none⟩ = some (.string { data := #[] }) ∧ w'.cell? ⟨x11.heap.size, 0, none⟩ = some (.int .i64 2) ∧ w'.cell? ⟨x11.heap.size, 1, none⟩ = some (.int .i64 0) ∧ w'.cell? ⟨x11.heap.size, 2, none⟩ = some (.string { data := #[] }) ∧ w'.cell? ⟨x12.heap.size, 0, none⟩ = some (.int .i64 2) ∧ w'.cell? ⟨x12.heap.size, 1, none⟩ = some (.int .i64 1) ∧ w'.cell? ⟨x12.heap.size, 2, none⟩ = some (.string { data := #[] }) ∧ Below W12.heap.size W12 w') (by kernel_rfl) (MK.out _ (Below.drew (Below.refl _ _))) (fun hHeld => ?_)
          refine wpAnyH_take (i := 0) (v := ?_) rfl (by kernel_rfl) (by kernel_rfl) (by kernel_rfl) (fun _ _ _ h => h) (Or.inl ⟨by rfl, ?_⟩) (by assumption) ?_
          rotate_left
          · (intro w' hSw; (try dsimp only at hSw); go_simp; (try (with_reducible rfl)))
          simp only [Act.put, List.getElem_toArray, List.getElem_cons_zero, List.setIfInBounds_toArray, List.set_cons_succ, List.set_cons_zero]
          refine wpAnyH_take (i := 1) (v := ?_) rfl (by kernel_rfl) (by kernel_rfl) (by kernel_rfl) (fun _ _ _ h => h) (Or.inl ⟨by rfl, ?_⟩) (by assumption) ?_
          rotate_left
          · (intro w' hSw; (try dsimp only at hSw); go_simp; (try (with_reducible rfl)))
          simp only [Act.put, List.getElem_toArray, List.getElem_cons_succ, List.getElem_cons_zero, List.setIfInBounds_toArray, List.set_cons_succ, List.set_cons_zero]
          refine wpAnyH_take (i := 2) (v := ?_) rfl (by kernel_rfl) (by kernel_rfl) (by kernel_rfl) (fun _ _ _ h => h) (Or.inl ⟨by rfl, ?_⟩) (by assumption) ?_
          rotate_left
          · (intro w' hSw; (try dsimp only at hSw); go_simp; (try (with_reducible rfl)))
          simp only [Act.put, List.getElem_toArray, List.getElem_cons_succ, List.getElem_cons_zero, List.setIfInBounds_toArray, List.set_cons_succ, List.set_cons_zero]
          refine wpAnyH_take (i := 3) (v := ?_) rfl (by kernel_rfl) (by kernel_rfl) (by kernel_rfl) (fun _ _ _ h => h) (Or.inl ⟨by rfl, ?_⟩) (by assumption) ?_
          rotate_left
          · (intro w' hSw; (try dsimp only at hSw); go_simp; (try (with_reducible rfl)))
          simp only [Act.put, List.getElem_toArray, List.getElem_cons_succ, List.getElem_cons_zero, List.setIfInBounds_toArray, List.set_cons_succ, List.set_cons_zero]
          refine wpAnyH_take (i := 4) (v := ?_) rfl (by kernel_rfl) (by kernel_rfl) (by kernel_rfl) (fun _ _ _ h => h) (Or.inl ⟨by rfl, ?_⟩) (by assumption) ?_
          rotate_left
          · (intro w' hSw; (try dsimp only at hSw); go_simp; (try (with_reducible rfl)))
          simp only [Act.put, List.getElem_toArray, List.getElem_cons_succ, List.getElem_cons_zero, List.setIfInBounds_toArray, List.set_cons_succ, List.set_cons_zero]
          refine wpAnyH_take (i := 5) (v := ?_) rfl (by kernel_rfl) (by kernel_rfl) (by kernel_rfl) (fun _ _ _ h => h) (Or.inl ⟨by rfl, ?_⟩) (by assumption) ?_
          rotate_left
          · (intro w' hSw; (try dsimp only at hSw); go_simp; (try (with_reducible rfl)))
          simp only [Act.put, List.getElem_toArray, List.getElem_cons_succ, List.getElem_cons_zero, List.setIfInBounds_toArray, List.set_cons_succ, List.set_cons_zero]
          refine wpAnyH_take (i := 6) (v := ?_) rfl (by kernel_rfl) (by kernel_rfl) (by kernel_rfl) (fun _ _ _ h => h) (Or.inl ⟨by rfl, ?_⟩) (by assumption) ?_
          rotate_left
          · (intro w' hSw; (try dsimp only at hSw); go_simp; (try (with_reducible rfl)))
          simp only [Act.put, List.getElem_toArray, List.getElem_cons_succ, List.getElem_cons_zero, List.setIfInBounds_toArray, List.set_cons_succ, List.set_cons_zero]
          refine wpAnyH_take (i := 7) (v := ?_) rfl (by kernel_rfl) (by kernel_rfl) (by kernel_rfl) (fun _ _ _ h => h) (Or.inl ⟨by rfl, ?_⟩) (by assumption) ?_
          rotate_left
          · (intro w' hSw; (try dsimp only at hSw); go_simp; (try (with_reducible rfl)))
          simp only [Act.put, List.getElem_toArray, List.getElem_cons_succ, List.getElem_cons_zero, List.setIfInBounds_toArray, List.set_cons_succ, List.set_cons_zero]
          refine wpAnyH_take (i := 8) (v := ?_) rfl (by kernel_rfl) (by kernel_rfl) (by kernel_rfl) (fun _ _ _ h => h) (Or.inl ⟨by rfl, ?_⟩) (by assumption) ?_
          rotate_left
          · (intro w' hSw; (try dsimp only at hSw); go_simp; (try (with_reducible rfl)))
          simp only [Act.put, List.getElem_toArray, List.getElem_cons_succ, List.getElem_cons_zero, List.setIfInBounds_toArray, List.set_cons_succ, List.set_cons_zero]
          refine wpAnyH_take (i := 9) (v := ?_) rfl (by kernel_rfl) (by kernel_rfl) (by kernel_rfl) (fun _ _ _ h => h) (Or.inl ⟨by rfl, ?_⟩) (by assumption) ?_
          rotate_left
          · (intro w' hSw; (try dsimp only at hSw); go_simp; (try (with_reducible rfl)))
          simp only [Act.put, List.getElem_toArray, List.getElem_cons_succ, List.getElem_cons_zero, List.setIfInBounds_toArray, List.set_cons_succ, List.set_cons_zero]
          refine wpAnyH_take (i := 10) (v := ?_) rfl (by kernel_rfl) (by kernel_rfl) (by kernel_rfl) (fun _ _ _ h => h) (Or.inl ⟨by rfl, ?_⟩) (by assumption) ?_
          rotate_left
          · (intro w' hSw; (try dsimp only at hSw); go_simp; (try (with_reducible rfl)))
          simp only [Act.put, List.getElem_toArray, List.getElem_cons_succ, List.getElem_cons_zero, List.setIfInBounds_toArray, List.set_cons_succ, List.set_cons_zero]
          refine wpAnyH_take (i := 11) (v := ?_) rfl (by kernel_rfl) (by kernel_rfl) (by kernel_rfl) (fun _ _ _ h => h) (Or.inl ⟨by rfl, ?_⟩) (by assumption) ?_
          rotate_left
          · (intro w' hSw; (try dsimp only at hSw); go_simp; (try (with_reducible rfl)))
          simp only [Act.put, List.getElem_toArray, List.getElem_cons_succ, List.getElem_cons_zero, List.setIfInBounds_toArray, List.set_cons_succ, List.set_cons_zero]
          refine wpAnyH_take (i := 12) (v := ?_) rfl (by kernel_rfl) (by kernel_rfl) (by kernel_rfl) (fun _ _ _ h => h) (Or.inl ⟨by rfl, ?_⟩) (by assumption) ?_
          rotate_left
          · (intro w' hSw; (try dsimp only at hSw); go_simp; (try (with_reducible rfl)))
          simp only [Act.put, List.getElem_toArray, List.getElem_cons_succ, List.getElem_cons_zero, List.setIfInBounds_toArray, List.set_cons_succ, List.set_cons_zero]
          refine wpAnyH_take (i := 13) (v := ?_) rfl (by kernel_rfl) (by kernel_rfl) (by kernel_rfl) (fun _ _ _ h => h) (Or.inl ⟨by rfl, ?_⟩) (by assumption) ?_
          rotate_left
          · (intro w' hSw; (try dsimp only at hSw); go_simp; (try (with_reducible rfl)))
          simp only [Act.put, List.getElem_toArray, List.getElem_cons_succ, List.getElem_cons_zero, List.setIfInBounds_toArray, List.set_cons_succ, List.set_cons_zero]
          refine wpAnyH_take (i := 14) (v := ?_) rfl (by kernel_rfl) (by kernel_rfl) (by kernel_rfl) (fun _ _ _ h => h) (Or.inl ⟨by rfl, ?_⟩) (by assumption) ?_
          rotate_left
          · (intro w' hSw; (try dsimp only at hSw); go_simp; (try (with_reducible rfl)))
          simp only [Act.put, List.getElem_toArray, List.getElem_cons_succ, List.getElem_cons_zero, List.setIfInBounds_toArray, List.set_cons_succ, List.set_cons_zero]
          refine wpAnyH_take (i := 15) (v := ?_) rfl (by kernel_rfl) (by kernel_rfl) (by kernel_rfl) (fun _ _ _ h => h) (Or.inl ⟨by rfl, ?_⟩) (by assumption) ?_
          rotate_left
          · (intro w' hSw; (try dsimp only at hSw); go_simp; (try (with_reducible rfl)))
          simp only [Act.put, List.getElem_toArray, List.getElem_cons_succ, List.getElem_cons_zero, List.setIfInBounds_toArray, List.set_cons_succ, List.set_cons_zero]
          refine wpAnyH_take (i := 16) (v := ?_) rfl (by kernel_rfl) (by kernel_rfl) (by kernel_rfl) (fun _ _ _ h => h) (Or.inl ⟨by rfl, ?_⟩) (by assumption) ?_
          rotate_left
          · (intro w' hSw; (try dsimp only at hSw); go_simp; (try (with_reducible rfl)))
          simp only [Act.put, List.getElem_toArray, List.getElem_cons_succ, List.getElem_cons_zero, List.setIfInBounds_toArray, List.set_cons_succ, List.set_cons_zero]
          refine wpAnyH_take (i := 17) (v := ?_) rfl (by kernel_rfl) (by kernel_rfl) (by kernel_rfl) (fun _ _ _ h => h) (Or.inl ⟨by rfl, ?_⟩) (by assumption) ?_
          rotate_left
          · (intro w' hSw; (try dsimp only at hSw); go_simp; (try (with_reducible rfl)))
          simp only [Act.put, List.getElem_toArray, List.getElem_cons_succ, List.getElem_cons_zero, List.setIfInBounds_toArray, List.set_cons_succ, List.set_cons_zero]
          refine wpAnyH_take (i := 18) (v := ?_) rfl (by kernel_rfl) (by kernel_rfl) (by kernel_rfl) (fun _ _ _ h => h) (Or.inl ⟨by rfl, ?_⟩) (by assumption) ?_
          rotate_left
          · (intro w' hSw; (try dsimp only at hSw); go_simp; (try (with_reducible rfl)))
          simp only [Act.put, List.getElem_toArray, List.getElem_cons_succ, List.getElem_cons_zero, List.setIfInBounds_toArray, List.set_cons_succ, List.set_cons_zero]
          refine wpAnyH_take (i := 19) (v := ?_) rfl (by kernel_rfl) (by kernel_rfl) (by kernel_rfl) (fun _ _ _ h => h) (Or.inl ⟨by rfl, ?_⟩) (by assumption) ?_
          rotate_left
          · (intro w' hSw; (try dsimp only at hSw); go_simp; (try (with_reducible rfl)))
          simp only [Act.put, List.getElem_toArray, List.getElem_cons_succ, List.getElem_cons_zero, List.setIfInBounds_toArray, List.set_cons_succ, List.set_cons_zero]
          refine wpAnyH_take (i := 20) (v := ?_) rfl (by kernel_rfl) (by kernel_rfl) (by kernel_rfl) (fun _ _ _ h => h) (Or.inl ⟨by rfl, ?_⟩) (by assumption) ?_
          rotate_left
          · (intro w' hSw; (try dsimp only at hSw); go_simp; (try (with_reducible rfl)))
          simp only [Act.put, List.getElem_toArray, List.getElem_cons_succ, List.getElem_cons_zero, List.setIfInBounds_toArray, List.set_cons_succ, List.set_cons_zero]
          refine wpAnyH_take (i := 21) (v := ?_) rfl (by kernel_rfl) (by kernel_rfl) (by kernel_rfl) (fun _ _ _ h => h) (Or.inl ⟨by rfl, ?_⟩) (by assumption) ?_
          rotate_left
          · (intro w' hSw; (try dsimp only at hSw); go_simp; (try (with_reducible rfl)))
          simp only [Act.put, List.getElem_toArray, List.getElem_cons_succ, List.getElem_cons_zero, List.setIfInBounds_toArray, List.set_cons_succ, List.set_cons_zero]
          refine wpAnyH_take (i := 22) (v := ?_) rfl (by kernel_rfl) (by kernel_rfl) (by kernel_rfl) (fun _ _ _ h => h) (Or.inl ⟨by rfl, ?_⟩) (by assumption) ?_
          rotate_left
          · (intro w' hSw; (try dsimp only at hSw); go_simp; (try (with_reducible rfl)))
          simp only [Act.put, List.getElem_toArray, List.getElem_cons_succ, List.getElem_cons_zero, List.setIfInBounds_toArray, List.set_cons_succ, List.set_cons_zero]
          refine wpAnyH_take (i := 23) (v := ?_) rfl (by kernel_rfl) (by kernel_rfl) (by kernel_rfl) (fun _ _ _ h => h) (Or.inl ⟨by rfl, ?_⟩) (by assumption) ?_
          rotate_left
          · (intro w' hSw; (try dsimp only at hSw); go_simp; (try (with_reducible rfl)))
          simp only [Act.put, List.getElem_toArray, List.getElem_cons_succ, List.getElem_cons_zero, List.setIfInBounds_toArray, List.set_cons_succ, List.set_cons_zero]
          refine wpAnyH_take (i := 24) (v := ?_) rfl (by kernel_rfl) (by kernel_rfl) (by kernel_rfl) (fun _ _ _ h => h) (Or.inl ⟨by rfl, ?_⟩) (by assumption) ?_
          rotate_left
          · (intro w' hSw; (try dsimp only at hSw); go_simp; (try (with_reducible rfl)))
          simp only [Act.put, List.getElem_toArray, List.getElem_cons_succ, List.getElem_cons_zero, List.setIfInBounds_toArray, List.set_cons_succ, List.set_cons_zero]
          refine wpAnyH_take (i := 25) (v := ?_) rfl (by kernel_rfl) (by kernel_rfl) (by kernel_rfl) (fun _ _ _ h => h) (Or.inl ⟨by rfl, ?_⟩) (by assumption) ?_
          rotate_left
          · (intro w' hSw; (try dsimp only at hSw); go_simp; (try (with_reducible rfl)))
          simp only [Act.put, List.getElem_toArray, List.getElem_cons_succ, List.getElem_cons_zero, List.setIfInBounds_toArray, List.set_cons_succ, List.set_cons_zero]
          refine wpAnyH_take (i := 26) (v := ?_) rfl (by kernel_rfl) (by kernel_rfl) (by kernel_rfl) (fun _ _ _ h => h) (Or.inl ⟨by rfl, ?_⟩) (by assumption) ?_
          rotate_left
          · (intro w' hSw; (try dsimp only at hSw); go_simp; (try (with_reducible rfl)))
          simp only [Act.put, List.getElem_toArray, List.getElem_cons_succ, List.getElem_cons_zero, List.setIfInBounds_toArray, List.set_cons_succ, List.set_cons_zero]
          refine wpAnyH_take (i := 27) (v := ?_) rfl (by kernel_rfl) (by kernel_rfl) (by kernel_rfl) (fun _ _ _ h => h) (Or.inl ⟨by rfl, ?_⟩) (by assumption) ?_
          rotate_left
          · (intro w' hSw; (try dsimp only at hSw); go_simp; (try (with_reducible rfl)))
          simp only [Act.put, List.getElem_toArray, List.getElem_cons_succ, List.getElem_cons_zero, List.setIfInBounds_toArray, List.set_cons_succ, List.set_cons_zero]
          refine wpAnyH_take (i := 28) (v := ?_) rfl (by kernel_rfl) (by kernel_rfl) (by kernel_rfl) (fun _ _ _ h => h) (Or.inl ⟨by rfl, ?_⟩) (by assumption) ?_
          rotate_left
          · (intro w' hSw; (try dsimp only at hSw); go_simp; (try (with_reducible rfl)))
          simp only [Act.put, List.getElem_toArray, List.getElem_cons_succ, List.getElem_cons_zero, List.setIfInBounds_toArray, List.set_cons_succ, List.set_cons_zero]
          refine wpAnyH_take (i := 29) (v := ?_) rfl (by kernel_rfl) (by kernel_rfl) (by kernel_rfl) (fun _ _ _ h => h) (Or.inl ⟨by rfl, ?_⟩) (by assumption) ?_
          rotate_left
          · (intro w' hSw; (try dsimp only at hSw); go_simp; (try (with_reducible rfl)))
          simp only [Act.put, List.getElem_toArray, List.getElem_cons_succ, List.getElem_cons_zero, List.setIfInBounds_toArray, List.set_cons_succ, List.set_cons_zero]
          refine wpAnyH_take (i := 30) (v := ?_) rfl (by kernel_rfl) (by kernel_rfl) (by kernel_rfl) (fun _ _ _ h => h) (Or.inl ⟨by rfl, ?_⟩) (by assumption) ?_
          rotate_left
          · (intro w' hSw; (try dsimp only at hSw); go_simp; (try (with_reducible rfl)))
          simp only [Act.put, List.getElem_toArray, List.getElem_cons_succ, List.getElem_cons_zero, List.setIfInBounds_toArray, List.set_cons_succ, List.set_cons_zero]
          refine wpAnyH_take (i := 31) (v := ?_) rfl (by kernel_rfl) (by kernel_rfl) (by kernel_rfl) (fun _ _ _ h => h) (Or.inl ⟨by rfl, ?_⟩) (by assumption) ?_
          rotate_left
          · (intro w' hSw; (try dsimp only at hSw); go_simp; (try (with_reducible rfl)))
          simp only [Act.put, List.getElem_toArray, List.getElem_cons_succ, List.getElem_cons_zero, List.setIfInBounds_toArray, List.set_cons_succ, List.set_cons_zero]
          refine wpAnyH_take (i := 32) (v := ?_) rfl (by kernel_rfl) (by kernel_rfl) (by kernel_rfl) (fun _ _ _ h => h) (Or.inl ⟨by rfl, ?_⟩) (by assumption) ?_
          rotate_left
          · (intro w' hSw; (try dsimp only at hSw); go_simp; (try (with_reducible rfl)))
          simp only [Act.put, List.getElem_toArray, List.getElem_cons_succ, List.getElem_cons_zero, List.setIfInBounds_toArray, List.set_cons_succ, List.set_cons_zero]
          refine wpAnyH_take (i := 33) (v := ?_) rfl (by kernel_rfl) (by kernel_rfl) (by kernel_rfl) (fun _ _ _ h => h) (Or.inl ⟨by rfl, ?_⟩) (by assumption) ?_
          rotate_left
          · (intro w' hSw; (try dsimp only at hSw); go_simp; (try (with_reducible rfl)))
          simp only [Act.put, List.getElem_toArray, List.getElem_cons_succ, List.getElem_cons_zero, List.setIfInBounds_toArray, List.set_cons_succ, List.set_cons_zero]
          refine wpAnyH_take (i := 34) (v := ?_) rfl (by kernel_rfl) (by kernel_rfl) (by kernel_rfl) (fun _ _ _ h => h) (Or.inl ⟨by rfl, ?_⟩) (by assumption) ?_
          rotate_left
          · (intro w' hSw; (try dsimp only at hSw); go_simp; (try (with_reducible rfl)))
          simp only [Act.put, List.getElem_toArray, List.getElem_cons_succ, List.getElem_cons_zero, List.setIfInBounds_toArray, List.set_cons_succ, List.set_cons_zero]
          refine wpAnyH_take (i := 35) (v := ?_) rfl (by kernel_rfl) (by kernel_rfl) (by kernel_rfl) (fun _ _ _ h => h) (Or.inl ⟨by rfl, ?_⟩) (by assumption) ?_
          rotate_left
          · (intro w' hSw; (try dsimp only at hSw); go_simp; (try (with_reducible rfl)))
          simp only [Act.put, List.getElem_toArray, List.getElem_cons_succ, List.getElem_cons_zero, List.setIfInBounds_toArray, List.set_cons_succ, List.set_cons_zero]
          refine wpAnyH_take (i := 36) (v := ?_) rfl (by kernel_rfl) (by kernel_rfl) (by kernel_rfl) (fun _ _ _ h => h) (Or.inl ⟨by rfl, ?_⟩) (by assumption) ?_
          rotate_left
          · (intro w' hSw; (try dsimp only at hSw); go_simp; (try (with_reducible rfl)))
          simp only [Act.put, List.getElem_toArray, List.getElem_cons_succ, List.getElem_cons_zero, List.setIfInBounds_toArray, List.set_cons_succ, List.set_cons_zero]
          refine wpAnyH_take (i := 37) (v := ?_) rfl (by kernel_rfl) (by kernel_rfl) (by kernel_rfl) (fun _ _ _ h => h) (Or.inl ⟨by rfl, ?_⟩) (by assumption) ?_
          rotate_left
          · (intro w' hSw; (try dsimp only at hSw); go_simp; (try (with_reducible rfl)))
          simp only [Act.put, List.getElem_toArray, List.getElem_cons_succ, List.getElem_cons_zero, List.setIfInBounds_toArray, List.set_cons_succ, List.set_cons_zero]
          refine wpAnyH_take (i := 38) (v := ?_) rfl (by kernel_rfl) (by kernel_rfl) (by kernel_rfl) (fun _ _ _ h => h) (Or.inl ⟨by rfl, ?_⟩) (by assumption) ?_
          rotate_left
          · (intro w' hSw; (try dsimp only at hSw); go_simp; (try (with_reducible rfl)))
          simp only [Act.put, List.getElem_toArray, List.getElem_cons_succ, List.getElem_cons_zero, List.setIfInBounds_toArray, List.set_cons_succ, List.set_cons_zero]
          refine wpAnyH_take (i := 39) (v := ?_) rfl (by kernel_rfl) (by kernel_rfl) (by kernel_rfl) (fun _ _ _ h => h) (Or.inl ⟨by rfl, ?_⟩) (by assumption) ?_
          rotate_left
          · (intro w' hSw; (try dsimp only at hSw); go_simp; (try (with_reducible rfl)))
          simp only [Act.put, List.getElem_toArray, List.getElem_cons_succ, List.getElem_cons_zero, List.setIfInBounds_toArray, List.set_cons_succ, List.set_cons_zero]
          refine wpAnyH_take (i := 40) (v := ?_) rfl (by kernel_rfl) (by kernel_rfl) (by kernel_rfl) (fun _ _ _ h => h) (Or.inl ⟨by rfl, ?_⟩) (by assumption) ?_
          rotate_left
          · (intro w' hSw; (try dsimp only at hSw); go_simp; (try (with_reducible rfl)))
          simp only [Act.put, List.getElem_toArray, List.getElem_cons_succ, List.getElem_cons_zero, List.setIfInBounds_toArray, List.set_cons_succ, List.set_cons_zero]
          refine wpAnyH_take (i := 41) (v := ?_) rfl (by kernel_rfl) (by kernel_rfl) (by kernel_rfl) (fun _ _ _ h => h) (Or.inl ⟨by rfl, ?_⟩) (by assumption) ?_
          rotate_left
          · (intro w' hSw; (try dsimp only at hSw); go_simp; (try (with_reducible rfl)))
          simp only [Act.put, List.getElem_toArray, List.getElem_cons_succ, List.getElem_cons_zero, List.setIfInBounds_toArray, List.set_cons_succ, List.set_cons_zero]
          refine wpAnyH_take (i := 42) (v := ?_) rfl (by kernel_rfl) (by kernel_rfl) (by kernel_rfl) (fun _ _ _ h => h) (Or.inl ⟨by rfl, ?_⟩) (by assumption) ?_
          rotate_left
          · (intro w' hSw; (try dsimp only at hSw); go_simp; (try (with_reducible rfl)))
          simp only [Act.put, List.getElem_toArray, List.getElem_cons_succ, List.getElem_cons_zero, List.setIfInBounds_toArray, List.set_cons_succ, List.set_cons_zero]
          refine wpAnyH_take (i := 43) (v := ?_) rfl (by kernel_rfl) (by kernel_rfl) (by kernel_rfl) (fun _ _ _ h => h) (Or.inl ⟨by rfl, ?_⟩) (by assumption) ?_
          rotate_left
          · (intro w' hSw; (try dsimp only at hSw); go_simp; (try (with_reducible rfl)))
          simp only [Act.put, List.getElem_toArray, List.getElem_cons_succ, List.getElem_cons_zero, List.setIfInBounds_toArray, List.set_cons_succ, List.set_cons_zero]
          refine wpAnyH_take (i := 44) (v := ?_) rfl (by kernel_rfl) (by kernel_rfl) (by kernel_rfl) (fun _ _ _ h => h) (Or.inl ⟨by rfl, ?_⟩) (by assumption) ?_
          rotate_left
          · (intro w' hSw; (try dsimp only at hSw); go_simp; (try (with_reducible rfl)))
          simp only [Act.put, List.getElem_toArray, List.getElem_cons_succ, List.getElem_cons_zero, List.setIfInBounds_toArray, List.set_cons_succ, List.set_cons_zero]
          refine wpAnyH_take (i := 45) (v := ?_) rfl (by kernel_rfl) (by kernel_rfl) (by kernel_rfl) (fun _ _ _ h => h) (Or.inl ⟨by rfl, ?_⟩) (by assumption) ?_
          rotate_left
          · (intro w' hSw; (try dsimp only at hSw); go_simp; (try (with_reducible rfl)))
          simp only [Act.put, List.getElem_toArray, List.getElem_cons_succ, List.getElem_cons_zero, List.setIfInBounds_toArray, List.set_cons_succ, List.set_cons_zero]
          refine wpAnyH_ready (rs := [46]) (by kernel_rfl) (by simp) ?_
          refine AllReadyH.cons rfl (fun K hK => ?_) AllReadyH.nil
          go_simp
          (go_at_call 23; refine (sign_not1 _).mono ?_; rintro e w4 ⟨rfl, hb4⟩; (try go_simp))
          refine hK.out _ _ ?_ (fun hHeld => ?_)
          · (try dsimp only); ((try go_split_ands); refine MK.out _ ?_; repeat (first | assumption | exact Below.refl _ _ | apply Below.drew | apply kb_alloc | refine keep_below ?_ hb4))
          clear hK K
          refine wpAnyH_take (i := 47) (v := ?_) rfl (by kernel_rfl) (by kernel_rfl) (by kernel_rfl) (fun _ _ _ h => h) (Or.inl ⟨by rfl, ?_⟩) (by assumption) ?_
          rotate_left
          · (intro w' hSw; (try dsimp only at hSw); go_simp; (try (with_reducible rfl)))
          simp only [Act.put, List.getElem_toArray, List.getElem_cons_succ, List.getElem_cons_zero, List.setIfInBounds_toArray, List.set_cons_succ, List.set_cons_zero]
          refine wpAnyH_take (i := 48) (v := ?_) rfl (by kernel_rfl) (by kernel_rfl) (by kernel_rfl) (fun _ _ _ h => h) (Or.inl ⟨by rfl, ?_⟩) (by assumption) ?_
          rotate_left
          · (intro w' hSw; (try dsimp only at hSw); go_simp; (try (with_reducible rfl)))
          simp only [Act.put, List.getElem_toArray, List.getElem_cons_succ, List.getElem_cons_zero, List.setIfInBounds_toArray, List.set_cons_succ, List.set_cons_zero]
          refine wpAnyH_take (i := 49) (v := ?_) rfl (by kernel_rfl) (by kernel_rfl) (by kernel_rfl) (fun _ _ _ h => h) (Or.inl ⟨by rfl, ?_⟩) (by assumption) ?_
          rotate_left
          · (intro w' hSw; (try dsimp only at hSw); go_simp; (try (with_reducible rfl)))
          simp only [Act.put, List.getElem_toArray, List.getElem_cons_succ, List.getElem_cons_zero, List.setIfInBounds_toArray, List.set_cons_succ, List.set_cons_zero]
          refine wpAnyH_take (i := 50) (v := ?_) rfl (by kernel_rfl) (by kernel_rfl) (by kernel_rfl) (fun _ _ _ h => h) (Or.inl ⟨by rfl, ?_⟩) (by assumption) ?_
          rotate_left
          · (intro w' hSw; (try dsimp only at hSw); go_simp; (try (with_reducible rfl)))
          simp only [Act.put, List.getElem_toArray, List.getElem_cons_succ, List.getElem_cons_zero, List.setIfInBounds_toArray, List.set_cons_succ, List.set_cons_zero]
          refine wpAnyH_take (i := 51) (v := ?_) rfl (by kernel_rfl) (by kernel_rfl) (by kernel_rfl) (fun _ _ _ h => h) (Or.inl ⟨by rfl, ?_⟩) (by assumption) ?_
          rotate_left
          · (intro w' hSw; (try dsimp only at hSw); go_simp; (try (with_reducible rfl)))
          simp only [Act.put, List.getElem_toArray, List.getElem_cons_succ, List.getElem_cons_zero, List.setIfInBounds_toArray, List.set_cons_succ, List.set_cons_zero]
          refine wpAnyH_take (i := 52) (v := ?_) rfl (by kernel_rfl) (by kernel_rfl) (by kernel_rfl) (fun _ _ _ h => h) (Or.inl ⟨by rfl, ?_⟩) (by assumption) ?_
          rotate_left
          · (intro w' hSw; (try dsimp only at hSw); go_simp; (try (with_reducible rfl)))
          simp only [Act.put, List.getElem_toArray, List.getElem_cons_succ, List.getElem_cons_zero, List.setIfInBounds_toArray, List.set_cons_succ, List.set_cons_zero]
          refine wpAnyH_take (i := 53) (v := ?_) rfl (by kernel_rfl) (by kernel_rfl) (by kernel_rfl) (fun _ _ _ h => h) (Or.inl ⟨by rfl, ?_⟩) (by assumption) ?_
          rotate_left
          · (intro w' hSw; (try dsimp only at hSw); go_simp; (try (with_reducible rfl)))
          simp only [Act.put, List.getElem_toArray, List.getElem_cons_succ, List.getElem_cons_zero, List.setIfInBounds_toArray, List.set_cons_succ, List.set_cons_zero]
          refine wpAnyH_take (i := 54) (v := ?_) rfl (by kernel_rfl) (by kernel_rfl) (by kernel_rfl) (fun _ _ _ h => h) (Or.inl ⟨by rfl, ?_⟩) (by assumption) ?_
          rotate_left
          · (intro w' hSw; (try dsimp only at hSw); go_simp; (try (with_reducible rfl)))
          simp only [Act.put, List.getElem_toArray, List.getElem_cons_succ, List.getElem_cons_zero, List.setIfInBounds_toArray, List.set_cons_succ, List.set_cons_zero]
          refine wpAnyH_take (i := 55) (v := ?_) rfl (by kernel_rfl) (by kernel_rfl) (by kernel_rfl) (fun _ _ _ h => h) (Or.inl ⟨by rfl, ?_⟩) (by assumption) ?_
          rotate_left
          · (intro w' hSw; (try dsimp only at hSw); go_simp; (try (with_reducible rfl)))
          simp only [Act.put, List.getElem_toArray, List.getElem_cons_succ, List.getElem_cons_zero, List.setIfInBounds_toArray, List.set_cons_succ, List.set_cons_zero]
          refine wpAnyH_take (i := 56) (v := ?_) rfl (by kernel_rfl) (by kernel_rfl) (by kernel_rfl) (fun _ _ _ h => h) (Or.inl ⟨by rfl, ?_⟩) (by assumption) ?_
          rotate_left
          · (intro w' hSw; (try dsimp only at hSw); go_simp; (try (with_reducible rfl)))
          simp only [Act.put, List.getElem_toArray, List.getElem_cons_succ, List.getElem_cons_zero, List.setIfInBounds_toArray, List.set_cons_succ, List.set_cons_zero]
          refine wpAnyH_take (i := 57) (v := ?_) rfl (by kernel_rfl) (by kernel_rfl) (by kernel_rfl) (fun _ _ _ h => h) (Or.inl ⟨by rfl, ?_⟩) (by assumption) ?_
          rotate_left
          · (intro w' hSw; (try dsimp only at hSw); go_simp; (try (with_reducible rfl)))
          simp only [Act.put, List.getElem_toArray, List.getElem_cons_succ, List.getElem_cons_zero, List.setIfInBounds_toArray, List.set_cons_succ, List.set_cons_zero]
          refine wpAnyH_take (i := 58) (v := ?_) rfl (by kernel_rfl) (by kernel_rfl) (by kernel_rfl) (fun _ _ _ h => h) (Or.inl ⟨by rfl, ?_⟩) (by assumption) ?_
          rotate_left
          · (intro w' hSw; (try dsimp only at hSw); go_simp; (try (with_reducible rfl)))
          simp only [Act.put, List.getElem_toArray, List.getElem_cons_succ, List.getElem_cons_zero, List.setIfInBounds_toArray, List.set_cons_succ, List.set_cons_zero]
          refine wpAnyH_done (by kernel_rfl) ?_ _
          have hb : Below W12.heap.size W12 w4 := (by assumption : w4.cell? ⟨x10.heap.size, 0, none⟩ = some (.int .i64 1) ∧ w4.cell? ⟨x10.heap.size, 1, none⟩ = some (.int .i64 (a)) ∧ w4.cell? ⟨x10.heap.size, 2, none⟩ = some (.string { data := #[] }) ∧ w4.cell? ⟨x2.heap.size, 0, none⟩ = some (.int .i64 1) ∧ w4.cell? ⟨x2.heap.size, 1, none⟩ = some (.int .i64 (a)) ∧ w4.cell? ⟨x2.heap.size, 2, none⟩ = some (.string { data := #[] }) ∧ w4.cell? ⟨x8.heap.size, 0, none⟩ = some (.int .i64 1) ∧ w4.cell? ⟨x8.heap.size, 1, none⟩ = some (.int .i64 (a.tmod b)) ∧ w4.cell? ⟨x8.heap.size, 2, none⟩ = some (.string { data := #[] }) ∧ w4.cell? ⟨x11.heap.size, 0, none⟩ = some (.int .i64 2) ∧ w4.cell? ⟨x11.heap.size, 1, none⟩ = some (.int .i64 0) ∧ w4.cell? ⟨x11.heap.size, 2, none⟩ = some (.string { data := #[] }) ∧ w4.cell? ⟨x12.heap.size, 0, none⟩ = some (.int .i64 2) ∧ w4.cell? ⟨x12.heap.size, 1, none⟩ = some (.int .i64 1) ∧ w4.cell? ⟨x12.heap.size, 2, none⟩ = some (.string { data := #[] }) ∧ Below W12.heap.size W12 w4).2.2.2.2.2.2.2.2.2.2.2.2.2.2.2
          replace d10 := keep_cell hb y1 d10
          replace d11 := keep_cell hb y1 d11
          replace d12 := keep_cell hb y1 d12
          replace y1 := Nat.lt_of_lt_of_le y1 hb.size
          replace d80 := keep_cell hb y8 d80
          replace d81 := keep_cell hb y8 d81
          replace d82 := keep_cell hb y8 d82
          replace y8 := Nat.lt_of_lt_of_le y8 hb.size
          replace d100 := keep_cell hb y10 d100
          replace d101 := keep_cell hb y10 d101
          replace d102 := keep_cell hb y10 d102
          replace y10 := Nat.lt_of_lt_of_le y10 hb.size
          replace d110 := keep_cell hb y11 d110
          replace d111 := keep_cell hb y11 d111
          replace d112 := keep_cell hb y11 d112
          replace y11 := Nat.lt_of_lt_of_le y11 hb.size
          replace d120 := keep_cell hb y12 d120
          replace d121 := keep_cell hb y12 d121
          replace d122 := keep_cell hb y12 d122
          replace y12 := Nat.lt_of_lt_of_le y12 hb.size
          replace B := keep_below B hb
          clear hb
          go_wp2
          go_ret
          exact ⟨rfl, B⟩

theorem rng_of_wf {a : Int} (h : (Lit.int .i64 a).wf = true) : Rng a := by
  have := bounds_i64 h
  exact ⟨by omega, by omega⟩
theorem walk0 (a b : Int) (h : (Lit.int .i64 a).wf = true) (w : World) :
    Calls Tryd.prog 5 #[.int .i64 a, .int .i64 b] w fun e w' => e = .returned (.bool true) ∧ Below w.heap.size w w' := divides_walk a b (rng_of_wf h) w
end Go.Proofs.YtpighdioomjnmaaDoor.divides
