/-
  Layer 20: the walk of CrcLinear. Written by an AI agent.
-/
import Derived.Test.YtpighdioomjnmabDoorCrcP
import Derived.Test.YtpighdioomjnmabDoorCrcD
import Derived.Deep.OwnRows
import Derived.Deep.RegionHeld3
import Derived.Deep.AppendLies
namespace Go.Proofs.YtpighdioomjnmabDoor
open Go.RowKit

theorem lt_take {l : List Nat} (h : ∀ v ∈ l, v < 256) (k : Nat) : ∀ v ∈ l.take k, v < 256 := fun v hv => h v (List.mem_of_mem_take hv)

/-- What make lays reads as noughts. -/
theorem rd_made (w : World) (k : Nat) : Rd (w.alloc (.cells (madeCells #[.int .u8 0] k) 5)) (w.heap.size + 1) (some ⟨w.heap.size, 0, none⟩) (List.replicate k 0) := by
  have e : madeCells #[Value.int .u8 0] k = (cellsOf (List.replicate k 0)).toArray := by
    apply Array.ext'
    rw [toList_madeCells_one]
    simp [cellsOf]
  rw [e]
  have t := rd_block (w := w.alloc (.cells (cellsOf (List.replicate k 0)).toArray 5)) (g := w.heap.size) (x := List.replicate k 0) (heap_alloc_new w _)
  rw [World.size_alloc] at t
  exact t

set_option maxRecDepth 100000 in
set_option maxHeartbeats 8000000 in
theorem linear_walk (A1 A2 : Option Addr) (c1 c2 : Nat) (a b : List Nat) (w : World)
    (m1 : a.length ≤ 9223372036854775807) (m2 : b.length ≤ 9223372036854775807) (k1 : a.length ≤ c1) (k2 : b.length ≤ c2)
    (l1 : ∀ v ∈ a, v < 256) (l2 : ∀ v ∈ b, v < 256) (r1 : Rd w w.heap.size A1 a) (r2 : Rd w w.heap.size A2 b) (ht : HasTab w) (h0 : 0 < w.heap.size) :
    Calls Tryd.prog 6 #[.slice A1 a.length c1, .slice A2 b.length c2] w fun e w' => e = .returned (.bool true) ∧ Below w.heap.size w w' := by
  obtain ⟨i0, hi, hz0, hz1, hz2⟩ := info_parts info5
  have S1 := Lib.hid (fun w => short_rd c1 A1 a w m1 k1)
  have S2 := Lib.hid (fun w => short_rd c2 A2 b w m2 k2)
  obtain ⟨n1, hn1⟩ : ∃ n : Nat, (a.take 2000).length = n := ⟨_, rfl⟩
  obtain ⟨n2, hn2⟩ : ∃ n : Nat, (b.take 2000).length = n := ⟨_, rfl⟩
  rw [hn1] at S1
  rw [hn2] at S2
  rw [List.length_take] at hn1 hn2
  obtain ⟨n, hn⟩ : ∃ n : Nat, n = min n1 n2 := ⟨_, rfl⟩
  have q1 : n ≤ a.length := by omega
  have q2 : n ≤ b.length := by omega
  have q3 : n ≤ 2000 := by omega
  have q4 : n1 ≤ 2000 := by omega
  have q5 : n2 ≤ 2000 := by omega
  have HNN := Lib.hid hn
  have X1 := Lib.hid (show (a.take n).length = n by rw [List.length_take]; omega)
  have X2 := Lib.hid (show (b.take n).length = n by rw [List.length_take]; omega)
  have L1 := Lib.hid (lt_take l1 n)
  have L2 := Lib.hid (lt_take l2 n)
  have R1 := Lib.hid (r1.take n)
  have R2 := Lib.hid (r2.take n)
  have HT := Lib.hid ht
  clear l1 l2 r1 r2 ht hn1 hn2 hn
  obtain ⟨z, hz⟩ : ∃ z : List Nat, z = zipX (a.take n) (b.take n) := ⟨_, rfl⟩
  have ZL := Lib.hid (show z.length = n by rw [hz]; simp only [zipX, List.length_zipWith]; rw [X1.out, X2.out]; omega)
  have ZD := Lib.hid hz
  clear hz
  by_cases hmin : n2 < n1
  · have hnn : n = n2 := by have := HNN.out; omega
    have hm' : (n2 : Int) < (n1 : Int) := by omega
    subst hnn
    clear HNN
    go_enter Tryd.func6, Tryd.ntmps6
    go_wp2_with fail
    refine (shown_any w HT.out h0).mono ?_
    rintro e w1 ⟨rfl, hb1⟩
    go_wp2_with fail
    refine (S1.out _).mono ?_
    rintro e w1' ⟨rfl, rfl⟩
    go_wp2_with fail
    refine (S2.out _).mono ?_
    rintro e w1' ⟨rfl, rfl⟩
    go_wp2_with fail
    have own0 : (w1.alloc (.cells #[] 5)).ownsRow w.heap.size 5 1 (.slice (some ⟨w1.heap.size, 0, none⟩) 0 0) 0 (cellsOf (z.take 0)) := World.ownsRow_lit w1 #[] 0 hb1.size (by unfold maxLen; omega) rfl
    have hb1' : Below w.heap.size w (w1.alloc (.cells #[] 5)) := hb1.alloc hb1.size _
    go_loopw [7, 8] (fun v i wr => ∃ k : Nat, k ≤ n ∧ i = .int .i64 k ∧ wr.ownsRow w.heap.size 5 1 v k (cellsOf (z.take k)) ∧ (∃ g cap, v = .slice (some ⟨g, 0, none⟩) k cap) ∧ Below w.heap.size w wr) (fun _ i _ => n - (intOf i).toNat)
    case atStart => exact ⟨0, by omega, rfl, own0, ⟨_, _, rfl⟩, hb1'⟩
    case round =>
      obtain ⟨k, hk, rfl, hown, ⟨gx, capx, hv⟩, hbr⟩ := hrel
      rw [hv] at hown ⊢
      clear hv
      by_cases hlt : k < n
      · have hlt' : (k : Int) < (n : Int) := by omega
        obtain ⟨b1, o1, hA1, hbb1, hc1⟩ := R1.out (by rw [X1.out]; omega)
        obtain ⟨b2, o2, hA2, hbb2, hc2⟩ := R2.out (by rw [X2.out]; omega)
        subst hA1
        subst hA2
        obtain ⟨va, hva⟩ : ∃ v : Nat, v = (a.take n).getD k 0 := ⟨_, rfl⟩
        obtain ⟨vb, hvb⟩ : ∃ v : Nat, v = (b.take n).getD k 0 := ⟨_, rfl⟩
        have ha : wr.cell? ⟨b1, o1 + k, none⟩ = some (.int .u8 (va : Int)) := by rw [hva]; exact has_below hc1 hbr hbb1 k (by rw [X1.out]; omega)
        have hb : wr.cell? ⟨b2, o2 + k, none⟩ = some (.int .u8 (vb : Int)) := by rw [hvb]; exact has_below hc2 hbr hbb2 k (by rw [X2.out]; omega)
        have hval : va < 256 := by rw [hva, getD_at _ (by rw [X1.out]; exact hlt)]; exact L1.out _ (List.getElem_mem _)
        have hvbl : vb < 256 := by rw [hvb, getD_at _ (by rw [X2.out]; exact hlt)]; exact L2.out _ (List.getElem_mem _)
        obtain ⟨vx, hvx⟩ : ∃ v : Nat, v = va ^^^ vb := ⟨_, rfl⟩
        have ex : bits BinOp.xor IntKind.u8 (va : Int) (vb : Int) = (vx : Int) := by rw [hvx]; exact u8_xor_nat va vb hval hvbl
        have hzk : z.take (k + 1) = z.take k ++ [vx] := by
          have hkz : k < z.length := by rw [ZL.out]; exact hlt
          rw [List.take_succ_eq_append_getElem hkz]
          congr 2
          rw [hvx, hva, hvb, getD_at _ (by rw [X1.out]; exact hlt), getD_at _ (by rw [X2.out]; exact hlt)]
          have e := ZD.out
          subst e
          simp [zipX]
        have HZK := Lib.hid hzk
        have la : (k : Int) < (a.length : Int) := by omega
        have lb : (k : Int) < (b.length : Int) := by omega
        have lk : (0 : Int) ≤ (k : Int) := by omega
        have n1' := World.block_lt_of_cell? wr _ ha
        have n2' := World.block_lt_of_cell? wr _ hb
        have ng1 : gx ≠ b1 := by have := (hown.lt gx rfl).1; omega
        have ng2 : gx ≠ b2 := by have := (hown.lt gx rfl).1; omega
        clear hva hvb hvx hzk hc1 hc2
        go_wp2_with fail
        go_region_held3 (fun w' => w'.cell? ⟨b1, o1 + k, none⟩ = some (.int .u8 (va : Int)) ∧ w'.cell? ⟨b2, o2 + k, none⟩ = some (.int .u8 (vb : Int)))
          (first
            | go_keep
            | (go_split_ands
               refine ⟨?_, ?_⟩
               · (rw [hgrow.cell_far _ (by simp; omega) (by simp [Value.ownBlock]; omega)]; assumption)
               · (rw [hgrow.cell_far _ (by simp; omega) (by simp [Value.ownBlock]; omega)]; assumption)))
          ((refine step_append_lies _ (by rfl) _ _ _ (by rfl) w.heap.size 5 i0 _ 1 1 Tryd.underlying22 hi hz0 hz1 hz2 rfl (by omega) (.slice (some ⟨gx, 0, none⟩) k capx) k (cellsOf (z.take k)) (by rfl) ((hown.alloc _).drew)
              ⟨wr.heap.size, 0, none⟩ 1 1 [.int .u8 (vx : Int)] (by rfl) (by rfl) (World.news_of_block (cs := #[.int .u8 (vx : Int)]) (t := 5) (fr := (0, 0)) (heap_alloc_new wr _)) (by simp [Value.oneCell'])
              (by omega) (by unfold maxLen; omega) (by omega) (by have := hbr.size; simp; omega) (wr.heap.size + 1) (by simp) ?_; intro gg cap w4 hown1 hgrow hat hlt4))
        have hbn : Below w.heap.size w w4 := (hbr.drew.alloc hbr.size _).grown hgrow (by have := hbr.size; simp; omega) (fun q e => by simp [Value.ownBlock] at e; subst e; exact (hown.lt _ rfl).1)
        clear hgrow
        go_wp2
        go_roundw
        case rel =>
          refine ⟨k + 1, by omega, by go_num, ?_, ⟨gg, cap, rfl⟩, hbn⟩
          rw [HZK.out, cellsOf_append]
          exact hown1
        case measure => simp [intOf]; omega
      · have hkn : k = n := by omega
        subst hkn
        have hlt' : ¬ (k : Int) < (k : Int) := by omega
        have hzt : z.take k = z := List.take_of_length_le (by rw [ZL.out]; exact Nat.le_refl _)
        rw [hzt] at hown
        clear hzt hlt
        have hzv : ∀ v ∈ z, v < 256 := by rw [ZD.out]; exact zipX_lt _ _ L1.out L2.out
        have hRz : Rd wr wr.heap.size (some ⟨gx, 0, none⟩) z := fun _ => ⟨gx, 0, rfl, (hown.lt gx rfl).2, fun i hi => by
          rw [Nat.zero_add, hown.cellAt i (by rw [← ZL.out]; omega), List.getElem?_eq_getElem (by rw [cellsOf_length]; exact hi), getD_at _ hi]
          simp [cellsOf]⟩
        obtain ⟨ga, hga⟩ : ∃ g : Nat, g = goN 0 (a.take k) := ⟨_, rfl⟩
        obtain ⟨gb, hgb⟩ : ∃ g : Nat, g = goN 0 (b.take k) := ⟨_, rfl⟩
        obtain ⟨gz, hgz⟩ : ∃ g : Nat, g = goN 0 z := ⟨_, rfl⟩
        obtain ⟨gm, hgm⟩ : ∃ g : Nat, g = goN 0 (List.replicate k 0) := ⟨_, rfl⟩
        obtain ⟨gab, hgab⟩ : ∃ g : Nat, g = ga ^^^ gb := ⟨_, rfl⟩
        have lga : ga < 4294967296 := by rw [hga]; exact goN_lt 0 _ (by omega) L1.out
        have lgb : gb < 4294967296 := by rw [hgb]; exact goN_lt 0 _ (by omega) L2.out
        have lgz : gz < 4294967296 := by rw [hgz]; exact goN_lt 0 _ (by omega) hzv
        have lgab : gab < 4294967296 := by rw [hgab]; exact Nat.xor_lt_two_pow (n := 32) lga lgb
        have EL : gab ^^^ gz = gm := by
          have t := goN_linear (a.take k) (b.take k) (by rw [X1.out, X2.out]) L1.out L2.out
          rw [X1.out, ← ZD.out, ← hga, ← hgb, ← hgz, ← hgm, ← hgab] at t
          exact t
        have ex1 : bits BinOp.xor IntKind.u32 (ga : Int) (gb : Int) = (gab : Int) := by rw [hgab]; exact u32_xor_nat ga gb lga lgb
        have ex2 : bits BinOp.xor IntKind.u32 (gab : Int) (gz : Int) = (gm : Int) := by rw [← EL]; exact u32_xor_nat gab gz lgab lgz
        have HGA := Lib.hid hga
        have HGB := Lib.hid hgb
        have HGZ := Lib.hid hgz
        have HGM := Lib.hid hgm
        clear hga hgb hgz hgm hgab EL
        have MK := Lib.hid (fun (w' : World) (h : Below wr.heap.size wr w') => h)
        have TX := Lib.hid (fun (w' : World) (h : Below wr.heap.size wr w') => HT.out.below h0 (hbr.trans (h.mono hbr.size)))
        have OA := Lib.hid (fun (w' : World) (h : Below wr.heap.size wr w') => show Calls Tryd.prog 13 #[.slice A1 k c1] w' fun e w'' => e = .returned (.int .u32 (ga : Int)) ∧ w' = w'' by
          have t := of_rd w.heap.size c1 A1 (a.take k) w' (by rw [X1.out]; omega) L1.out (R1.out.below (hbr.trans (h.mono hbr.size))) (TX.out w' h)
          rw [X1.out, ← HGA.out] at t
          exact t)
        have OB := Lib.hid (fun (w' : World) (h : Below wr.heap.size wr w') => show Calls Tryd.prog 13 #[.slice A2 k c2] w' fun e w'' => e = .returned (.int .u32 (gb : Int)) ∧ w' = w'' by
          have t := of_rd w.heap.size c2 A2 (b.take k) w' (by rw [X2.out]; omega) L2.out (R2.out.below (hbr.trans (h.mono hbr.size))) (TX.out w' h)
          rw [X2.out, ← HGB.out] at t
          exact t)
        have OZ := Lib.hid (fun (w' : World) (h : Below wr.heap.size wr w') => show Calls Tryd.prog 13 #[.slice (some ⟨gx, 0, none⟩) k capx] w' fun e w'' => e = .returned (.int .u32 (gz : Int)) ∧ w' = w'' by
          have t := of_rd wr.heap.size capx (some ⟨gx, 0, none⟩) z w' (by rw [ZL.out]; omega) hzv (hRz.below h) (TX.out w' h)
          rw [ZL.out, ← HGZ.out] at t
          exact t)
        have OM := Lib.hid (fun (w' : World) (h : Below wr.heap.size wr w') => show Calls Tryd.prog 13 #[.slice (some ⟨w'.heap.size, 0, none⟩) k k] (w'.alloc (.cells (madeCells #[.int .u8 0] k) 5)) fun e w'' => e = .returned (.int .u32 (gm : Int)) ∧ (w'.alloc (.cells (madeCells #[.int .u8 0] k) 5)) = w'' by
          have t := of_rd (w'.heap.size + 1) k (some ⟨w'.heap.size, 0, none⟩) (List.replicate k 0) (w'.alloc (.cells (madeCells #[.int .u8 0] k) 5)) (by simp; omega) (by simp) (rd_made w' k) (TX.out _ (h.alloc h.size _))
          rw [List.length_replicate, ← HGM.out] at t
          exact t)
        have HMK := Lib.hid (fun (w' : World) => run_make_row' (P := Tryd.prog) 22 5 (.int .u8 0) 1 Tryd.underlying22 info5 rfl .i64 .i64 k (by omega) (by omega) w')
        have HBW := Lib.hid hbr
        have la : (k : Int) ≤ (c1 : Int) := by omega
        have lb : (k : Int) ≤ (c2 : Int) := by omega
        have lk : (0 : Int) ≤ (k : Int) := by omega
        clear hRz hown
        go_wp2_with fail
        refine wp_region_held_drew (S := fun w' => Below wr.heap.size wr w') (by kernel_rfl) (MK.out _ (Below.refl wr.heap.size wr).drew) (fun hHeld => ?_)
        refine wpAnyH_take (i := 0) (v := ?_) rfl (by kernel_rfl) (by kernel_rfl) (by kernel_rfl) (fun _ _ _ h => h) (Or.inl ⟨by rfl, ?_⟩) (by assumption) ?_
        rotate_left
        · (intro w' hSw; (try dsimp only at hSw); go_simp; (try (with_reducible rfl)))
        simp only [Act.put, List.getElem_toArray, List.getElem_cons_zero, List.setIfInBounds_toArray, List.set_cons_succ, List.set_cons_zero]
        refine wpAnyH_take (i := 1) (v := ?_) rfl (by kernel_rfl) (by kernel_rfl) (by kernel_rfl) (fun _ _ _ h => h) (Or.inl ⟨by rfl, ?_⟩) (by assumption) ?_
        rotate_left
        · (intro w' hSw; (try dsimp only at hSw); go_simp; (try (with_reducible rfl)))
        simp only [Act.put, List.getElem_toArray, List.getElem_cons_succ, List.getElem_cons_zero, List.setIfInBounds_toArray, List.set_cons_succ, List.set_cons_zero]
        refine wpAnyH_take (i := 2) (v := ?_) rfl (by kernel_rfl) (by kernel_rfl) (by kernel_rfl) (fun _ _ _ h => h) (Or.inl ⟨by rfl, ?_⟩) (by assumption) ?_
        rotate_left
        · (intro w' hSw; (try dsimp only at hSw); go_simp; (try (with_reducible rfl)))
        simp only [Act.put, List.getElem_toArray, List.getElem_cons_succ, List.getElem_cons_zero, List.setIfInBounds_toArray, List.set_cons_succ, List.set_cons_zero]
        refine wpAnyH_take (i := 3) (v := ?_) rfl (by kernel_rfl) (by kernel_rfl) (by kernel_rfl) (fun _ _ _ h => h) (Or.inl ⟨by rfl, ?_⟩) (by assumption) ?_
        rotate_left
        · (intro w' hSw; (try dsimp only at hSw); go_simp; (try (with_reducible rfl)))
        simp only [Act.put, List.getElem_toArray, List.getElem_cons_succ, List.getElem_cons_zero, List.setIfInBounds_toArray, List.set_cons_succ, List.set_cons_zero]
        refine wpAnyH_take (i := 4) (v := ?_) rfl (by kernel_rfl) (by kernel_rfl) (by kernel_rfl) (fun _ _ _ h => h) (Or.inl ⟨by rfl, ?_⟩) (by assumption) ?_
        rotate_left
        · (intro w' hSw; (try dsimp only at hSw); go_simp; (try (with_reducible rfl)))
        simp only [Act.put, List.getElem_toArray, List.getElem_cons_succ, List.getElem_cons_zero, List.setIfInBounds_toArray, List.set_cons_succ, List.set_cons_zero]
        refine wpAnyH_take (i := 6) (v := ?_) rfl (by kernel_rfl) (by kernel_rfl) (by kernel_rfl) (fun _ _ _ h => h) (Or.inl ⟨by rfl, ?_⟩) (by assumption) ?_
        rotate_left
        · (intro w' hSw; (try dsimp only at hSw); go_simp; (try (with_reducible rfl)))
        simp only [Act.put, List.getElem_toArray, List.getElem_cons_succ, List.getElem_cons_zero, List.setIfInBounds_toArray, List.set_cons_succ, List.set_cons_zero]
        refine wpAnyH_take (i := 7) (v := ?_) rfl (by kernel_rfl) (by kernel_rfl) (by kernel_rfl) (fun _ _ _ h => h) (Or.inl ⟨by rfl, ?_⟩) (by assumption) ?_
        rotate_left
        · (intro w' hSw; (try dsimp only at hSw); go_simp; (try (with_reducible rfl)))
        simp only [Act.put, List.getElem_toArray, List.getElem_cons_succ, List.getElem_cons_zero, List.setIfInBounds_toArray, List.set_cons_succ, List.set_cons_zero]
        refine wpAnyH_take (i := 8) (v := ?_) rfl (by kernel_rfl) (by kernel_rfl) (by kernel_rfl) (fun _ _ _ h => h) (Or.inl ⟨by rfl, ?_⟩) (by assumption) ?_
        rotate_left
        · (intro w' hSw; (try dsimp only at hSw); go_simp; (try (with_reducible rfl)))
        simp only [Act.put, List.getElem_toArray, List.getElem_cons_succ, List.getElem_cons_zero, List.setIfInBounds_toArray, List.set_cons_succ, List.set_cons_zero]
        refine wpAnyH_take (i := 11) (v := ?_) rfl (by kernel_rfl) (by kernel_rfl) (by kernel_rfl) (fun _ _ _ h => h) (Or.inl ⟨by rfl, ?_⟩) (by assumption) ?_
        rotate_left
        · (intro w' hSw; (try dsimp only at hSw); go_simp; (try (with_reducible rfl)))
        simp only [Act.put, List.getElem_toArray, List.getElem_cons_succ, List.getElem_cons_zero, List.setIfInBounds_toArray, List.set_cons_succ, List.set_cons_zero]
        refine wpAnyH_take (i := 14) (v := ?_) rfl (by kernel_rfl) (by kernel_rfl) (by kernel_rfl) (fun _ _ _ h => h) (Or.inl ⟨by rfl, ?_⟩) (by assumption) ?_
        rotate_left
        · (intro w' hSw; (try dsimp only at hSw); go_simp; (try (with_reducible rfl)))
        simp only [Act.put, List.getElem_toArray, List.getElem_cons_succ, List.getElem_cons_zero, List.setIfInBounds_toArray, List.set_cons_succ, List.set_cons_zero]
        refine wpAnyH_ready (rs := [5, 15]) (by kernel_rfl) (by simp) ?_
        refine AllReadyH.cons rfl (fun K hK => ?_) ?_
        · go_simp
          refine (OA.out _ ((Below.refl wr.heap.size wr).drew)).mono ?_
          rintro e w4 ⟨rfl, rfl⟩
          refine hK.out _ _ (MK.out _ ((Below.refl wr.heap.size wr).drew)) (fun hHeld5 => ?_)
          clear hK K
          refine wpAnyH_ready (rs := [9, 15]) (by kernel_rfl) (by simp) ?_
          refine AllReadyH.cons rfl (fun K hK => ?_) ?_
          · go_simp
            refine (OB.out _ ((Below.refl wr.heap.size wr).drew)).mono ?_
            rintro e w4 ⟨rfl, rfl⟩
            refine hK.out _ _ (MK.out _ ((Below.refl wr.heap.size wr).drew)) (fun hHeld9 => ?_)
            clear hK K
            refine wpAnyH_take (i := 10) (v := ?_) rfl (by kernel_rfl) (by kernel_rfl) (by kernel_rfl) (fun _ _ _ h => h) (Or.inl ⟨by rfl, ?_⟩) (by assumption) ?_
            rotate_left
            · (intro w' hSw; (try dsimp only at hSw); go_simp; (try (with_reducible rfl)))
            simp only [Act.put, List.getElem_toArray, List.getElem_cons_succ, List.getElem_cons_zero, List.setIfInBounds_toArray, List.set_cons_succ, List.set_cons_zero]
            refine wpAnyH_ready (rs := [12, 15]) (by kernel_rfl) (by simp) ?_
            refine AllReadyH.cons rfl (fun K hK => ?_) ?_
            · go_simp
              refine (OZ.out _ ((Below.refl wr.heap.size wr).drew)).mono ?_
              rintro e w4 ⟨rfl, rfl⟩
              refine hK.out _ _ (MK.out _ ((Below.refl wr.heap.size wr).drew)) (fun hHeld12 => ?_)
              clear hK K
              refine wpAnyH_take (i := 13) (v := ?_) rfl (by kernel_rfl) (by kernel_rfl) (by kernel_rfl) (fun _ _ _ h => h) (Or.inl ⟨by rfl, ?_⟩) (by assumption) ?_
              rotate_left
              · (intro w' hSw; (try dsimp only at hSw); go_simp; (try (with_reducible rfl)))
              simp only [Act.put, List.getElem_toArray, List.getElem_cons_succ, List.getElem_cons_zero, List.setIfInBounds_toArray, List.set_cons_succ, List.set_cons_zero]
              refine wpAnyH_ready (rs := [15]) (by kernel_rfl) (by simp) ?_
              refine AllReadyH.cons rfl (fun K hK => ?_) ?_
              · go_simp
                simp only [HMK.out, go_sem]
                refine hK.out _ _ (MK.out _ (((Below.refl wr.heap.size wr).drew).alloc (((Below.refl wr.heap.size wr).drew).size) _)) (fun hHeld15 => ?_)
                clear hK K
                refine wpAnyH_ready (rs := [16]) (by kernel_rfl) (by simp) ?_
                refine AllReadyH.cons rfl (fun K hK => ?_) ?_
                · go_simp
                  refine (OM.out _ ((Below.refl wr.heap.size wr).drew)).mono ?_
                  rintro e w4 ⟨rfl, rfl⟩
                  refine hK.out _ _ (MK.out _ (((Below.refl wr.heap.size wr).drew).alloc (((Below.refl wr.heap.size wr).drew).size) _)) (fun hHeld16 => ?_)
                  clear hK K
                  refine wpAnyH_take (i := 17) (v := ?_) rfl (by kernel_rfl) (by kernel_rfl) (by kernel_rfl) (fun _ _ _ h => h) (Or.inl ⟨by rfl, ?_⟩) (by assumption) ?_
                  rotate_left
                  · (intro w' hSw; (try dsimp only at hSw); go_simp; (try (with_reducible rfl)))
                  simp only [Act.put, List.getElem_toArray, List.getElem_cons_succ, List.getElem_cons_zero, List.setIfInBounds_toArray, List.set_cons_succ, List.set_cons_zero]
                  refine wpAnyH_take (i := 18) (v := ?_) rfl (by kernel_rfl) (by kernel_rfl) (by kernel_rfl) (fun _ _ _ h => h) (Or.inl ⟨by rfl, ?_⟩) (by assumption) ?_
                  rotate_left
                  · (intro w' hSw; (try dsimp only at hSw); go_simp; (try (with_reducible rfl)))
                  simp only [Act.put, List.getElem_toArray, List.getElem_cons_succ, List.getElem_cons_zero, List.setIfInBounds_toArray, List.set_cons_succ, List.set_cons_zero]
                  refine wpAnyH_take (i := 19) (v := ?_) rfl (by kernel_rfl) (by kernel_rfl) (by kernel_rfl) (fun _ _ _ h => h) (Or.inl ⟨by rfl, ?_⟩) (by assumption) ?_
                  rotate_left
                  · (intro w' hSw; (try dsimp only at hSw); go_simp; (try (with_reducible rfl)))
                  simp only [Act.put, List.getElem_toArray, List.getElem_cons_succ, List.getElem_cons_zero, List.setIfInBounds_toArray, List.set_cons_succ, List.set_cons_zero]
                  refine wpAnyH_done (by kernel_rfl) ?_ _
                  go_wp2
                  go_ret
                  exact ⟨rfl, HBW.out.trans ((((Below.refl wr.heap.size wr).drew).alloc (((Below.refl wr.heap.size wr).drew).size) _).mono HBW.out.size)⟩
                exact AllReadyH.nil
              exact AllReadyH.nil
            refine AllReadyH.cons rfl (fun K hK => ?_) ?_
            · go_simp
              simp only [HMK.out, go_sem]
              refine hK.out _ _ (MK.out _ (((Below.refl wr.heap.size wr).drew).alloc (((Below.refl wr.heap.size wr).drew).size) _)) (fun hHeld15 => ?_)
              clear hK K
              refine wpAnyH_ready (rs := [12]) (by kernel_rfl) (by simp) ?_
              refine AllReadyH.cons rfl (fun K hK => ?_) ?_
              · go_simp
                refine (OZ.out _ (((Below.refl wr.heap.size wr).drew).alloc (((Below.refl wr.heap.size wr).drew).size) _)).mono ?_
                rintro e w4 ⟨rfl, rfl⟩
                refine hK.out _ _ (MK.out _ (((Below.refl wr.heap.size wr).drew).alloc (((Below.refl wr.heap.size wr).drew).size) _)) (fun hHeld12 => ?_)
                clear hK K
                refine wpAnyH_take (i := 13) (v := ?_) rfl (by kernel_rfl) (by kernel_rfl) (by kernel_rfl) (fun _ _ _ h => h) (Or.inl ⟨by rfl, ?_⟩) (by assumption) ?_
                rotate_left
                · (intro w' hSw; (try dsimp only at hSw); go_simp; (try (with_reducible rfl)))
                simp only [Act.put, List.getElem_toArray, List.getElem_cons_succ, List.getElem_cons_zero, List.setIfInBounds_toArray, List.set_cons_succ, List.set_cons_zero]
                refine wpAnyH_ready (rs := [16]) (by kernel_rfl) (by simp) ?_
                refine AllReadyH.cons rfl (fun K hK => ?_) ?_
                · go_simp
                  refine (OM.out _ ((Below.refl wr.heap.size wr).drew)).mono ?_
                  rintro e w4 ⟨rfl, rfl⟩
                  refine hK.out _ _ (MK.out _ (((Below.refl wr.heap.size wr).drew).alloc (((Below.refl wr.heap.size wr).drew).size) _)) (fun hHeld16 => ?_)
                  clear hK K
                  refine wpAnyH_take (i := 17) (v := ?_) rfl (by kernel_rfl) (by kernel_rfl) (by kernel_rfl) (fun _ _ _ h => h) (Or.inl ⟨by rfl, ?_⟩) (by assumption) ?_
                  rotate_left
                  · (intro w' hSw; (try dsimp only at hSw); go_simp; (try (with_reducible rfl)))
                  simp only [Act.put, List.getElem_toArray, List.getElem_cons_succ, List.getElem_cons_zero, List.setIfInBounds_toArray, List.set_cons_succ, List.set_cons_zero]
                  refine wpAnyH_take (i := 18) (v := ?_) rfl (by kernel_rfl) (by kernel_rfl) (by kernel_rfl) (fun _ _ _ h => h) (Or.inl ⟨by rfl, ?_⟩) (by assumption) ?_
                  rotate_left
                  · (intro w' hSw; (try dsimp only at hSw); go_simp; (try (with_reducible rfl)))
                  simp only [Act.put, List.getElem_toArray, List.getElem_cons_succ, List.getElem_cons_zero, List.setIfInBounds_toArray, List.set_cons_succ, List.set_cons_zero]
                  refine wpAnyH_take (i := 19) (v := ?_) rfl (by kernel_rfl) (by kernel_rfl) (by kernel_rfl) (fun _ _ _ h => h) (Or.inl ⟨by rfl, ?_⟩) (by assumption) ?_
                  rotate_left
                  · (intro w' hSw; (try dsimp only at hSw); go_simp; (try (with_reducible rfl)))
                  simp only [Act.put, List.getElem_toArray, List.getElem_cons_succ, List.getElem_cons_zero, List.setIfInBounds_toArray, List.set_cons_succ, List.set_cons_zero]
                  refine wpAnyH_done (by kernel_rfl) ?_ _
                  go_wp2
                  go_ret
                  exact ⟨rfl, HBW.out.trans ((((Below.refl wr.heap.size wr).drew).alloc (((Below.refl wr.heap.size wr).drew).size) _).mono HBW.out.size)⟩
                exact AllReadyH.nil
              exact AllReadyH.nil
            exact AllReadyH.nil
          refine AllReadyH.cons rfl (fun K hK => ?_) ?_
          · go_simp
            simp only [HMK.out, go_sem]
            refine hK.out _ _ (MK.out _ (((Below.refl wr.heap.size wr).drew).alloc (((Below.refl wr.heap.size wr).drew).size) _)) (fun hHeld15 => ?_)
            clear hK K
            refine wpAnyH_ready (rs := [9]) (by kernel_rfl) (by simp) ?_
            refine AllReadyH.cons rfl (fun K hK => ?_) ?_
            · go_simp
              refine (OB.out _ (((Below.refl wr.heap.size wr).drew).alloc (((Below.refl wr.heap.size wr).drew).size) _)).mono ?_
              rintro e w4 ⟨rfl, rfl⟩
              refine hK.out _ _ (MK.out _ (((Below.refl wr.heap.size wr).drew).alloc (((Below.refl wr.heap.size wr).drew).size) _)) (fun hHeld9 => ?_)
              clear hK K
              refine wpAnyH_take (i := 10) (v := ?_) rfl (by kernel_rfl) (by kernel_rfl) (by kernel_rfl) (fun _ _ _ h => h) (Or.inl ⟨by rfl, ?_⟩) (by assumption) ?_
              rotate_left
              · (intro w' hSw; (try dsimp only at hSw); go_simp; (try (with_reducible rfl)))
              simp only [Act.put, List.getElem_toArray, List.getElem_cons_succ, List.getElem_cons_zero, List.setIfInBounds_toArray, List.set_cons_succ, List.set_cons_zero]
              refine wpAnyH_ready (rs := [12]) (by kernel_rfl) (by simp) ?_
              refine AllReadyH.cons rfl (fun K hK => ?_) ?_
              · go_simp
                refine (OZ.out _ (((Below.refl wr.heap.size wr).drew).alloc (((Below.refl wr.heap.size wr).drew).size) _)).mono ?_
                rintro e w4 ⟨rfl, rfl⟩
                refine hK.out _ _ (MK.out _ (((Below.refl wr.heap.size wr).drew).alloc (((Below.refl wr.heap.size wr).drew).size) _)) (fun hHeld12 => ?_)
                clear hK K
                refine wpAnyH_take (i := 13) (v := ?_) rfl (by kernel_rfl) (by kernel_rfl) (by kernel_rfl) (fun _ _ _ h => h) (Or.inl ⟨by rfl, ?_⟩) (by assumption) ?_
                rotate_left
                · (intro w' hSw; (try dsimp only at hSw); go_simp; (try (with_reducible rfl)))
                simp only [Act.put, List.getElem_toArray, List.getElem_cons_succ, List.getElem_cons_zero, List.setIfInBounds_toArray, List.set_cons_succ, List.set_cons_zero]
                refine wpAnyH_ready (rs := [16]) (by kernel_rfl) (by simp) ?_
                refine AllReadyH.cons rfl (fun K hK => ?_) ?_
                · go_simp
                  refine (OM.out _ ((Below.refl wr.heap.size wr).drew)).mono ?_
                  rintro e w4 ⟨rfl, rfl⟩
                  refine hK.out _ _ (MK.out _ (((Below.refl wr.heap.size wr).drew).alloc (((Below.refl wr.heap.size wr).drew).size) _)) (fun hHeld16 => ?_)
                  clear hK K
                  refine wpAnyH_take (i := 17) (v := ?_) rfl (by kernel_rfl) (by kernel_rfl) (by kernel_rfl) (fun _ _ _ h => h) (Or.inl ⟨by rfl, ?_⟩) (by assumption) ?_
                  rotate_left
                  · (intro w' hSw; (try dsimp only at hSw); go_simp; (try (with_reducible rfl)))
                  simp only [Act.put, List.getElem_toArray, List.getElem_cons_succ, List.getElem_cons_zero, List.setIfInBounds_toArray, List.set_cons_succ, List.set_cons_zero]
                  refine wpAnyH_take (i := 18) (v := ?_) rfl (by kernel_rfl) (by kernel_rfl) (by kernel_rfl) (fun _ _ _ h => h) (Or.inl ⟨by rfl, ?_⟩) (by assumption) ?_
                  rotate_left
                  · (intro w' hSw; (try dsimp only at hSw); go_simp; (try (with_reducible rfl)))
                  simp only [Act.put, List.getElem_toArray, List.getElem_cons_succ, List.getElem_cons_zero, List.setIfInBounds_toArray, List.set_cons_succ, List.set_cons_zero]
                  refine wpAnyH_take (i := 19) (v := ?_) rfl (by kernel_rfl) (by kernel_rfl) (by kernel_rfl) (fun _ _ _ h => h) (Or.inl ⟨by rfl, ?_⟩) (by assumption) ?_
                  rotate_left
                  · (intro w' hSw; (try dsimp only at hSw); go_simp; (try (with_reducible rfl)))
                  simp only [Act.put, List.getElem_toArray, List.getElem_cons_succ, List.getElem_cons_zero, List.setIfInBounds_toArray, List.set_cons_succ, List.set_cons_zero]
                  refine wpAnyH_done (by kernel_rfl) ?_ _
                  go_wp2
                  go_ret
                  exact ⟨rfl, HBW.out.trans ((((Below.refl wr.heap.size wr).drew).alloc (((Below.refl wr.heap.size wr).drew).size) _).mono HBW.out.size)⟩
                exact AllReadyH.nil
              exact AllReadyH.nil
            exact AllReadyH.nil
          exact AllReadyH.nil
        refine AllReadyH.cons rfl (fun K hK => ?_) ?_
        · go_simp
          simp only [HMK.out, go_sem]
          refine hK.out _ _ (MK.out _ (((Below.refl wr.heap.size wr).drew).alloc (((Below.refl wr.heap.size wr).drew).size) _)) (fun hHeld15 => ?_)
          clear hK K
          refine wpAnyH_ready (rs := [5]) (by kernel_rfl) (by simp) ?_
          refine AllReadyH.cons rfl (fun K hK => ?_) ?_
          · go_simp
            refine (OA.out _ (((Below.refl wr.heap.size wr).drew).alloc (((Below.refl wr.heap.size wr).drew).size) _)).mono ?_
            rintro e w4 ⟨rfl, rfl⟩
            refine hK.out _ _ (MK.out _ (((Below.refl wr.heap.size wr).drew).alloc (((Below.refl wr.heap.size wr).drew).size) _)) (fun hHeld5 => ?_)
            clear hK K
            refine wpAnyH_ready (rs := [9]) (by kernel_rfl) (by simp) ?_
            refine AllReadyH.cons rfl (fun K hK => ?_) ?_
            · go_simp
              refine (OB.out _ (((Below.refl wr.heap.size wr).drew).alloc (((Below.refl wr.heap.size wr).drew).size) _)).mono ?_
              rintro e w4 ⟨rfl, rfl⟩
              refine hK.out _ _ (MK.out _ (((Below.refl wr.heap.size wr).drew).alloc (((Below.refl wr.heap.size wr).drew).size) _)) (fun hHeld9 => ?_)
              clear hK K
              refine wpAnyH_take (i := 10) (v := ?_) rfl (by kernel_rfl) (by kernel_rfl) (by kernel_rfl) (fun _ _ _ h => h) (Or.inl ⟨by rfl, ?_⟩) (by assumption) ?_
              rotate_left
              · (intro w' hSw; (try dsimp only at hSw); go_simp; (try (with_reducible rfl)))
              simp only [Act.put, List.getElem_toArray, List.getElem_cons_succ, List.getElem_cons_zero, List.setIfInBounds_toArray, List.set_cons_succ, List.set_cons_zero]
              refine wpAnyH_ready (rs := [12]) (by kernel_rfl) (by simp) ?_
              refine AllReadyH.cons rfl (fun K hK => ?_) ?_
              · go_simp
                refine (OZ.out _ (((Below.refl wr.heap.size wr).drew).alloc (((Below.refl wr.heap.size wr).drew).size) _)).mono ?_
                rintro e w4 ⟨rfl, rfl⟩
                refine hK.out _ _ (MK.out _ (((Below.refl wr.heap.size wr).drew).alloc (((Below.refl wr.heap.size wr).drew).size) _)) (fun hHeld12 => ?_)
                clear hK K
                refine wpAnyH_take (i := 13) (v := ?_) rfl (by kernel_rfl) (by kernel_rfl) (by kernel_rfl) (fun _ _ _ h => h) (Or.inl ⟨by rfl, ?_⟩) (by assumption) ?_
                rotate_left
                · (intro w' hSw; (try dsimp only at hSw); go_simp; (try (with_reducible rfl)))
                simp only [Act.put, List.getElem_toArray, List.getElem_cons_succ, List.getElem_cons_zero, List.setIfInBounds_toArray, List.set_cons_succ, List.set_cons_zero]
                refine wpAnyH_ready (rs := [16]) (by kernel_rfl) (by simp) ?_
                refine AllReadyH.cons rfl (fun K hK => ?_) ?_
                · go_simp
                  refine (OM.out _ ((Below.refl wr.heap.size wr).drew)).mono ?_
                  rintro e w4 ⟨rfl, rfl⟩
                  refine hK.out _ _ (MK.out _ (((Below.refl wr.heap.size wr).drew).alloc (((Below.refl wr.heap.size wr).drew).size) _)) (fun hHeld16 => ?_)
                  clear hK K
                  refine wpAnyH_take (i := 17) (v := ?_) rfl (by kernel_rfl) (by kernel_rfl) (by kernel_rfl) (fun _ _ _ h => h) (Or.inl ⟨by rfl, ?_⟩) (by assumption) ?_
                  rotate_left
                  · (intro w' hSw; (try dsimp only at hSw); go_simp; (try (with_reducible rfl)))
                  simp only [Act.put, List.getElem_toArray, List.getElem_cons_succ, List.getElem_cons_zero, List.setIfInBounds_toArray, List.set_cons_succ, List.set_cons_zero]
                  refine wpAnyH_take (i := 18) (v := ?_) rfl (by kernel_rfl) (by kernel_rfl) (by kernel_rfl) (fun _ _ _ h => h) (Or.inl ⟨by rfl, ?_⟩) (by assumption) ?_
                  rotate_left
                  · (intro w' hSw; (try dsimp only at hSw); go_simp; (try (with_reducible rfl)))
                  simp only [Act.put, List.getElem_toArray, List.getElem_cons_succ, List.getElem_cons_zero, List.setIfInBounds_toArray, List.set_cons_succ, List.set_cons_zero]
                  refine wpAnyH_take (i := 19) (v := ?_) rfl (by kernel_rfl) (by kernel_rfl) (by kernel_rfl) (fun _ _ _ h => h) (Or.inl ⟨by rfl, ?_⟩) (by assumption) ?_
                  rotate_left
                  · (intro w' hSw; (try dsimp only at hSw); go_simp; (try (with_reducible rfl)))
                  simp only [Act.put, List.getElem_toArray, List.getElem_cons_succ, List.getElem_cons_zero, List.setIfInBounds_toArray, List.set_cons_succ, List.set_cons_zero]
                  refine wpAnyH_done (by kernel_rfl) ?_ _
                  go_wp2
                  go_ret
                  exact ⟨rfl, HBW.out.trans ((((Below.refl wr.heap.size wr).drew).alloc (((Below.refl wr.heap.size wr).drew).size) _).mono HBW.out.size)⟩
                exact AllReadyH.nil
              exact AllReadyH.nil
            exact AllReadyH.nil
          exact AllReadyH.nil
        exact AllReadyH.nil
  · have hnn : n = n1 := by have := HNN.out; omega
    have hm' : ¬ (n2 : Int) < (n1 : Int) := by omega
    subst hnn
    clear HNN
    go_enter Tryd.func6, Tryd.ntmps6
    go_wp2_with fail
    refine (shown_any w HT.out h0).mono ?_
    rintro e w1 ⟨rfl, hb1⟩
    go_wp2_with fail
    refine (S1.out _).mono ?_
    rintro e w1' ⟨rfl, rfl⟩
    go_wp2_with fail
    refine (S2.out _).mono ?_
    rintro e w1' ⟨rfl, rfl⟩
    go_wp2_with fail
    have own0 : (w1.alloc (.cells #[] 5)).ownsRow w.heap.size 5 1 (.slice (some ⟨w1.heap.size, 0, none⟩) 0 0) 0 (cellsOf (z.take 0)) := World.ownsRow_lit w1 #[] 0 hb1.size (by unfold maxLen; omega) rfl
    have hb1' : Below w.heap.size w (w1.alloc (.cells #[] 5)) := hb1.alloc hb1.size _
    go_loopw [7, 8] (fun v i wr => ∃ k : Nat, k ≤ n ∧ i = .int .i64 k ∧ wr.ownsRow w.heap.size 5 1 v k (cellsOf (z.take k)) ∧ (∃ g cap, v = .slice (some ⟨g, 0, none⟩) k cap) ∧ Below w.heap.size w wr) (fun _ i _ => n - (intOf i).toNat)
    case atStart => exact ⟨0, by omega, rfl, own0, ⟨_, _, rfl⟩, hb1'⟩
    case round =>
      obtain ⟨k, hk, rfl, hown, ⟨gx, capx, hv⟩, hbr⟩ := hrel
      rw [hv] at hown ⊢
      clear hv
      by_cases hlt : k < n
      · have hlt' : (k : Int) < (n : Int) := by omega
        obtain ⟨b1, o1, hA1, hbb1, hc1⟩ := R1.out (by rw [X1.out]; omega)
        obtain ⟨b2, o2, hA2, hbb2, hc2⟩ := R2.out (by rw [X2.out]; omega)
        subst hA1
        subst hA2
        obtain ⟨va, hva⟩ : ∃ v : Nat, v = (a.take n).getD k 0 := ⟨_, rfl⟩
        obtain ⟨vb, hvb⟩ : ∃ v : Nat, v = (b.take n).getD k 0 := ⟨_, rfl⟩
        have ha : wr.cell? ⟨b1, o1 + k, none⟩ = some (.int .u8 (va : Int)) := by rw [hva]; exact has_below hc1 hbr hbb1 k (by rw [X1.out]; omega)
        have hb : wr.cell? ⟨b2, o2 + k, none⟩ = some (.int .u8 (vb : Int)) := by rw [hvb]; exact has_below hc2 hbr hbb2 k (by rw [X2.out]; omega)
        have hval : va < 256 := by rw [hva, getD_at _ (by rw [X1.out]; exact hlt)]; exact L1.out _ (List.getElem_mem _)
        have hvbl : vb < 256 := by rw [hvb, getD_at _ (by rw [X2.out]; exact hlt)]; exact L2.out _ (List.getElem_mem _)
        obtain ⟨vx, hvx⟩ : ∃ v : Nat, v = va ^^^ vb := ⟨_, rfl⟩
        have ex : bits BinOp.xor IntKind.u8 (va : Int) (vb : Int) = (vx : Int) := by rw [hvx]; exact u8_xor_nat va vb hval hvbl
        have hzk : z.take (k + 1) = z.take k ++ [vx] := by
          have hkz : k < z.length := by rw [ZL.out]; exact hlt
          rw [List.take_succ_eq_append_getElem hkz]
          congr 2
          rw [hvx, hva, hvb, getD_at _ (by rw [X1.out]; exact hlt), getD_at _ (by rw [X2.out]; exact hlt)]
          have e := ZD.out
          subst e
          simp [zipX]
        have HZK := Lib.hid hzk
        have la : (k : Int) < (a.length : Int) := by omega
        have lb : (k : Int) < (b.length : Int) := by omega
        have lk : (0 : Int) ≤ (k : Int) := by omega
        have n1' := World.block_lt_of_cell? wr _ ha
        have n2' := World.block_lt_of_cell? wr _ hb
        have ng1 : gx ≠ b1 := by have := (hown.lt gx rfl).1; omega
        have ng2 : gx ≠ b2 := by have := (hown.lt gx rfl).1; omega
        clear hva hvb hvx hzk hc1 hc2
        go_wp2_with fail
        go_region_held3 (fun w' => w'.cell? ⟨b1, o1 + k, none⟩ = some (.int .u8 (va : Int)) ∧ w'.cell? ⟨b2, o2 + k, none⟩ = some (.int .u8 (vb : Int)))
          (first
            | go_keep
            | (go_split_ands
               refine ⟨?_, ?_⟩
               · (rw [hgrow.cell_far _ (by simp; omega) (by simp [Value.ownBlock]; omega)]; assumption)
               · (rw [hgrow.cell_far _ (by simp; omega) (by simp [Value.ownBlock]; omega)]; assumption)))
          ((refine step_append_lies _ (by rfl) _ _ _ (by rfl) w.heap.size 5 i0 _ 1 1 Tryd.underlying22 hi hz0 hz1 hz2 rfl (by omega) (.slice (some ⟨gx, 0, none⟩) k capx) k (cellsOf (z.take k)) (by rfl) ((hown.alloc _).drew)
              ⟨wr.heap.size, 0, none⟩ 1 1 [.int .u8 (vx : Int)] (by rfl) (by rfl) (World.news_of_block (cs := #[.int .u8 (vx : Int)]) (t := 5) (fr := (0, 0)) (heap_alloc_new wr _)) (by simp [Value.oneCell'])
              (by omega) (by unfold maxLen; omega) (by omega) (by have := hbr.size; simp; omega) (wr.heap.size + 1) (by simp) ?_; intro gg cap w4 hown1 hgrow hat hlt4))
        have hbn : Below w.heap.size w w4 := (hbr.drew.alloc hbr.size _).grown hgrow (by have := hbr.size; simp; omega) (fun q e => by simp [Value.ownBlock] at e; subst e; exact (hown.lt _ rfl).1)
        clear hgrow
        go_wp2
        go_roundw
        case rel =>
          refine ⟨k + 1, by omega, by go_num, ?_, ⟨gg, cap, rfl⟩, hbn⟩
          rw [HZK.out, cellsOf_append]
          exact hown1
        case measure => simp [intOf]; omega
      · have hkn : k = n := by omega
        subst hkn
        have hlt' : ¬ (k : Int) < (k : Int) := by omega
        have hzt : z.take k = z := List.take_of_length_le (by rw [ZL.out]; exact Nat.le_refl _)
        rw [hzt] at hown
        clear hzt hlt
        have hzv : ∀ v ∈ z, v < 256 := by rw [ZD.out]; exact zipX_lt _ _ L1.out L2.out
        have hRz : Rd wr wr.heap.size (some ⟨gx, 0, none⟩) z := fun _ => ⟨gx, 0, rfl, (hown.lt gx rfl).2, fun i hi => by
          rw [Nat.zero_add, hown.cellAt i (by rw [← ZL.out]; omega), List.getElem?_eq_getElem (by rw [cellsOf_length]; exact hi), getD_at _ hi]
          simp [cellsOf]⟩
        obtain ⟨ga, hga⟩ : ∃ g : Nat, g = goN 0 (a.take k) := ⟨_, rfl⟩
        obtain ⟨gb, hgb⟩ : ∃ g : Nat, g = goN 0 (b.take k) := ⟨_, rfl⟩
        obtain ⟨gz, hgz⟩ : ∃ g : Nat, g = goN 0 z := ⟨_, rfl⟩
        obtain ⟨gm, hgm⟩ : ∃ g : Nat, g = goN 0 (List.replicate k 0) := ⟨_, rfl⟩
        obtain ⟨gab, hgab⟩ : ∃ g : Nat, g = ga ^^^ gb := ⟨_, rfl⟩
        have lga : ga < 4294967296 := by rw [hga]; exact goN_lt 0 _ (by omega) L1.out
        have lgb : gb < 4294967296 := by rw [hgb]; exact goN_lt 0 _ (by omega) L2.out
        have lgz : gz < 4294967296 := by rw [hgz]; exact goN_lt 0 _ (by omega) hzv
        have lgab : gab < 4294967296 := by rw [hgab]; exact Nat.xor_lt_two_pow (n := 32) lga lgb
        have EL : gab ^^^ gz = gm := by
          have t := goN_linear (a.take k) (b.take k) (by rw [X1.out, X2.out]) L1.out L2.out
          rw [X1.out, ← ZD.out, ← hga, ← hgb, ← hgz, ← hgm, ← hgab] at t
          exact t
        have ex1 : bits BinOp.xor IntKind.u32 (ga : Int) (gb : Int) = (gab : Int) := by rw [hgab]; exact u32_xor_nat ga gb lga lgb
        have ex2 : bits BinOp.xor IntKind.u32 (gab : Int) (gz : Int) = (gm : Int) := by rw [← EL]; exact u32_xor_nat gab gz lgab lgz
        have HGA := Lib.hid hga
        have HGB := Lib.hid hgb
        have HGZ := Lib.hid hgz
        have HGM := Lib.hid hgm
        clear hga hgb hgz hgm hgab EL
        have MK := Lib.hid (fun (w' : World) (h : Below wr.heap.size wr w') => h)
        have TX := Lib.hid (fun (w' : World) (h : Below wr.heap.size wr w') => HT.out.below h0 (hbr.trans (h.mono hbr.size)))
        have OA := Lib.hid (fun (w' : World) (h : Below wr.heap.size wr w') => show Calls Tryd.prog 13 #[.slice A1 k c1] w' fun e w'' => e = .returned (.int .u32 (ga : Int)) ∧ w' = w'' by
          have t := of_rd w.heap.size c1 A1 (a.take k) w' (by rw [X1.out]; omega) L1.out (R1.out.below (hbr.trans (h.mono hbr.size))) (TX.out w' h)
          rw [X1.out, ← HGA.out] at t
          exact t)
        have OB := Lib.hid (fun (w' : World) (h : Below wr.heap.size wr w') => show Calls Tryd.prog 13 #[.slice A2 k c2] w' fun e w'' => e = .returned (.int .u32 (gb : Int)) ∧ w' = w'' by
          have t := of_rd w.heap.size c2 A2 (b.take k) w' (by rw [X2.out]; omega) L2.out (R2.out.below (hbr.trans (h.mono hbr.size))) (TX.out w' h)
          rw [X2.out, ← HGB.out] at t
          exact t)
        have OZ := Lib.hid (fun (w' : World) (h : Below wr.heap.size wr w') => show Calls Tryd.prog 13 #[.slice (some ⟨gx, 0, none⟩) k capx] w' fun e w'' => e = .returned (.int .u32 (gz : Int)) ∧ w' = w'' by
          have t := of_rd wr.heap.size capx (some ⟨gx, 0, none⟩) z w' (by rw [ZL.out]; omega) hzv (hRz.below h) (TX.out w' h)
          rw [ZL.out, ← HGZ.out] at t
          exact t)
        have OM := Lib.hid (fun (w' : World) (h : Below wr.heap.size wr w') => show Calls Tryd.prog 13 #[.slice (some ⟨w'.heap.size, 0, none⟩) k k] (w'.alloc (.cells (madeCells #[.int .u8 0] k) 5)) fun e w'' => e = .returned (.int .u32 (gm : Int)) ∧ (w'.alloc (.cells (madeCells #[.int .u8 0] k) 5)) = w'' by
          have t := of_rd (w'.heap.size + 1) k (some ⟨w'.heap.size, 0, none⟩) (List.replicate k 0) (w'.alloc (.cells (madeCells #[.int .u8 0] k) 5)) (by simp; omega) (by simp) (rd_made w' k) (TX.out _ (h.alloc h.size _))
          rw [List.length_replicate, ← HGM.out] at t
          exact t)
        have HMK := Lib.hid (fun (w' : World) => run_make_row' (P := Tryd.prog) 22 5 (.int .u8 0) 1 Tryd.underlying22 info5 rfl .i64 .i64 k (by omega) (by omega) w')
        have HBW := Lib.hid hbr
        have la : (k : Int) ≤ (c1 : Int) := by omega
        have lb : (k : Int) ≤ (c2 : Int) := by omega
        have lk : (0 : Int) ≤ (k : Int) := by omega
        clear hRz hown
        go_wp2_with fail
        refine wp_region_held_drew (S := fun w' => Below wr.heap.size wr w') (by kernel_rfl) (MK.out _ (Below.refl wr.heap.size wr).drew) (fun hHeld => ?_)
        refine wpAnyH_take (i := 0) (v := ?_) rfl (by kernel_rfl) (by kernel_rfl) (by kernel_rfl) (fun _ _ _ h => h) (Or.inl ⟨by rfl, ?_⟩) (by assumption) ?_
        rotate_left
        · (intro w' hSw; (try dsimp only at hSw); go_simp; (try (with_reducible rfl)))
        simp only [Act.put, List.getElem_toArray, List.getElem_cons_zero, List.setIfInBounds_toArray, List.set_cons_succ, List.set_cons_zero]
        refine wpAnyH_take (i := 1) (v := ?_) rfl (by kernel_rfl) (by kernel_rfl) (by kernel_rfl) (fun _ _ _ h => h) (Or.inl ⟨by rfl, ?_⟩) (by assumption) ?_
        rotate_left
        · (intro w' hSw; (try dsimp only at hSw); go_simp; (try (with_reducible rfl)))
        simp only [Act.put, List.getElem_toArray, List.getElem_cons_succ, List.getElem_cons_zero, List.setIfInBounds_toArray, List.set_cons_succ, List.set_cons_zero]
        refine wpAnyH_take (i := 2) (v := ?_) rfl (by kernel_rfl) (by kernel_rfl) (by kernel_rfl) (fun _ _ _ h => h) (Or.inl ⟨by rfl, ?_⟩) (by assumption) ?_
        rotate_left
        · (intro w' hSw; (try dsimp only at hSw); go_simp; (try (with_reducible rfl)))
        simp only [Act.put, List.getElem_toArray, List.getElem_cons_succ, List.getElem_cons_zero, List.setIfInBounds_toArray, List.set_cons_succ, List.set_cons_zero]
        refine wpAnyH_take (i := 3) (v := ?_) rfl (by kernel_rfl) (by kernel_rfl) (by kernel_rfl) (fun _ _ _ h => h) (Or.inl ⟨by rfl, ?_⟩) (by assumption) ?_
        rotate_left
        · (intro w' hSw; (try dsimp only at hSw); go_simp; (try (with_reducible rfl)))
        simp only [Act.put, List.getElem_toArray, List.getElem_cons_succ, List.getElem_cons_zero, List.setIfInBounds_toArray, List.set_cons_succ, List.set_cons_zero]
        refine wpAnyH_take (i := 4) (v := ?_) rfl (by kernel_rfl) (by kernel_rfl) (by kernel_rfl) (fun _ _ _ h => h) (Or.inl ⟨by rfl, ?_⟩) (by assumption) ?_
        rotate_left
        · (intro w' hSw; (try dsimp only at hSw); go_simp; (try (with_reducible rfl)))
        simp only [Act.put, List.getElem_toArray, List.getElem_cons_succ, List.getElem_cons_zero, List.setIfInBounds_toArray, List.set_cons_succ, List.set_cons_zero]
        refine wpAnyH_take (i := 6) (v := ?_) rfl (by kernel_rfl) (by kernel_rfl) (by kernel_rfl) (fun _ _ _ h => h) (Or.inl ⟨by rfl, ?_⟩) (by assumption) ?_
        rotate_left
        · (intro w' hSw; (try dsimp only at hSw); go_simp; (try (with_reducible rfl)))
        simp only [Act.put, List.getElem_toArray, List.getElem_cons_succ, List.getElem_cons_zero, List.setIfInBounds_toArray, List.set_cons_succ, List.set_cons_zero]
        refine wpAnyH_take (i := 7) (v := ?_) rfl (by kernel_rfl) (by kernel_rfl) (by kernel_rfl) (fun _ _ _ h => h) (Or.inl ⟨by rfl, ?_⟩) (by assumption) ?_
        rotate_left
        · (intro w' hSw; (try dsimp only at hSw); go_simp; (try (with_reducible rfl)))
        simp only [Act.put, List.getElem_toArray, List.getElem_cons_succ, List.getElem_cons_zero, List.setIfInBounds_toArray, List.set_cons_succ, List.set_cons_zero]
        refine wpAnyH_take (i := 8) (v := ?_) rfl (by kernel_rfl) (by kernel_rfl) (by kernel_rfl) (fun _ _ _ h => h) (Or.inl ⟨by rfl, ?_⟩) (by assumption) ?_
        rotate_left
        · (intro w' hSw; (try dsimp only at hSw); go_simp; (try (with_reducible rfl)))
        simp only [Act.put, List.getElem_toArray, List.getElem_cons_succ, List.getElem_cons_zero, List.setIfInBounds_toArray, List.set_cons_succ, List.set_cons_zero]
        refine wpAnyH_take (i := 11) (v := ?_) rfl (by kernel_rfl) (by kernel_rfl) (by kernel_rfl) (fun _ _ _ h => h) (Or.inl ⟨by rfl, ?_⟩) (by assumption) ?_
        rotate_left
        · (intro w' hSw; (try dsimp only at hSw); go_simp; (try (with_reducible rfl)))
        simp only [Act.put, List.getElem_toArray, List.getElem_cons_succ, List.getElem_cons_zero, List.setIfInBounds_toArray, List.set_cons_succ, List.set_cons_zero]
        refine wpAnyH_take (i := 14) (v := ?_) rfl (by kernel_rfl) (by kernel_rfl) (by kernel_rfl) (fun _ _ _ h => h) (Or.inl ⟨by rfl, ?_⟩) (by assumption) ?_
        rotate_left
        · (intro w' hSw; (try dsimp only at hSw); go_simp; (try (with_reducible rfl)))
        simp only [Act.put, List.getElem_toArray, List.getElem_cons_succ, List.getElem_cons_zero, List.setIfInBounds_toArray, List.set_cons_succ, List.set_cons_zero]
        refine wpAnyH_ready (rs := [5, 15]) (by kernel_rfl) (by simp) ?_
        refine AllReadyH.cons rfl (fun K hK => ?_) ?_
        · go_simp
          refine (OA.out _ ((Below.refl wr.heap.size wr).drew)).mono ?_
          rintro e w4 ⟨rfl, rfl⟩
          refine hK.out _ _ (MK.out _ ((Below.refl wr.heap.size wr).drew)) (fun hHeld5 => ?_)
          clear hK K
          refine wpAnyH_ready (rs := [9, 15]) (by kernel_rfl) (by simp) ?_
          refine AllReadyH.cons rfl (fun K hK => ?_) ?_
          · go_simp
            refine (OB.out _ ((Below.refl wr.heap.size wr).drew)).mono ?_
            rintro e w4 ⟨rfl, rfl⟩
            refine hK.out _ _ (MK.out _ ((Below.refl wr.heap.size wr).drew)) (fun hHeld9 => ?_)
            clear hK K
            refine wpAnyH_take (i := 10) (v := ?_) rfl (by kernel_rfl) (by kernel_rfl) (by kernel_rfl) (fun _ _ _ h => h) (Or.inl ⟨by rfl, ?_⟩) (by assumption) ?_
            rotate_left
            · (intro w' hSw; (try dsimp only at hSw); go_simp; (try (with_reducible rfl)))
            simp only [Act.put, List.getElem_toArray, List.getElem_cons_succ, List.getElem_cons_zero, List.setIfInBounds_toArray, List.set_cons_succ, List.set_cons_zero]
            refine wpAnyH_ready (rs := [12, 15]) (by kernel_rfl) (by simp) ?_
            refine AllReadyH.cons rfl (fun K hK => ?_) ?_
            · go_simp
              refine (OZ.out _ ((Below.refl wr.heap.size wr).drew)).mono ?_
              rintro e w4 ⟨rfl, rfl⟩
              refine hK.out _ _ (MK.out _ ((Below.refl wr.heap.size wr).drew)) (fun hHeld12 => ?_)
              clear hK K
              refine wpAnyH_take (i := 13) (v := ?_) rfl (by kernel_rfl) (by kernel_rfl) (by kernel_rfl) (fun _ _ _ h => h) (Or.inl ⟨by rfl, ?_⟩) (by assumption) ?_
              rotate_left
              · (intro w' hSw; (try dsimp only at hSw); go_simp; (try (with_reducible rfl)))
              simp only [Act.put, List.getElem_toArray, List.getElem_cons_succ, List.getElem_cons_zero, List.setIfInBounds_toArray, List.set_cons_succ, List.set_cons_zero]
              refine wpAnyH_ready (rs := [15]) (by kernel_rfl) (by simp) ?_
              refine AllReadyH.cons rfl (fun K hK => ?_) ?_
              · go_simp
                simp only [HMK.out, go_sem]
                refine hK.out _ _ (MK.out _ (((Below.refl wr.heap.size wr).drew).alloc (((Below.refl wr.heap.size wr).drew).size) _)) (fun hHeld15 => ?_)
                clear hK K
                refine wpAnyH_ready (rs := [16]) (by kernel_rfl) (by simp) ?_
                refine AllReadyH.cons rfl (fun K hK => ?_) ?_
                · go_simp
                  refine (OM.out _ ((Below.refl wr.heap.size wr).drew)).mono ?_
                  rintro e w4 ⟨rfl, rfl⟩
                  refine hK.out _ _ (MK.out _ (((Below.refl wr.heap.size wr).drew).alloc (((Below.refl wr.heap.size wr).drew).size) _)) (fun hHeld16 => ?_)
                  clear hK K
                  refine wpAnyH_take (i := 17) (v := ?_) rfl (by kernel_rfl) (by kernel_rfl) (by kernel_rfl) (fun _ _ _ h => h) (Or.inl ⟨by rfl, ?_⟩) (by assumption) ?_
                  rotate_left
                  · (intro w' hSw; (try dsimp only at hSw); go_simp; (try (with_reducible rfl)))
                  simp only [Act.put, List.getElem_toArray, List.getElem_cons_succ, List.getElem_cons_zero, List.setIfInBounds_toArray, List.set_cons_succ, List.set_cons_zero]
                  refine wpAnyH_take (i := 18) (v := ?_) rfl (by kernel_rfl) (by kernel_rfl) (by kernel_rfl) (fun _ _ _ h => h) (Or.inl ⟨by rfl, ?_⟩) (by assumption) ?_
                  rotate_left
                  · (intro w' hSw; (try dsimp only at hSw); go_simp; (try (with_reducible rfl)))
                  simp only [Act.put, List.getElem_toArray, List.getElem_cons_succ, List.getElem_cons_zero, List.setIfInBounds_toArray, List.set_cons_succ, List.set_cons_zero]
                  refine wpAnyH_take (i := 19) (v := ?_) rfl (by kernel_rfl) (by kernel_rfl) (by kernel_rfl) (fun _ _ _ h => h) (Or.inl ⟨by rfl, ?_⟩) (by assumption) ?_
                  rotate_left
                  · (intro w' hSw; (try dsimp only at hSw); go_simp; (try (with_reducible rfl)))
                  simp only [Act.put, List.getElem_toArray, List.getElem_cons_succ, List.getElem_cons_zero, List.setIfInBounds_toArray, List.set_cons_succ, List.set_cons_zero]
                  refine wpAnyH_done (by kernel_rfl) ?_ _
                  go_wp2
                  go_ret
                  exact ⟨rfl, HBW.out.trans ((((Below.refl wr.heap.size wr).drew).alloc (((Below.refl wr.heap.size wr).drew).size) _).mono HBW.out.size)⟩
                exact AllReadyH.nil
              exact AllReadyH.nil
            refine AllReadyH.cons rfl (fun K hK => ?_) ?_
            · go_simp
              simp only [HMK.out, go_sem]
              refine hK.out _ _ (MK.out _ (((Below.refl wr.heap.size wr).drew).alloc (((Below.refl wr.heap.size wr).drew).size) _)) (fun hHeld15 => ?_)
              clear hK K
              refine wpAnyH_ready (rs := [12]) (by kernel_rfl) (by simp) ?_
              refine AllReadyH.cons rfl (fun K hK => ?_) ?_
              · go_simp
                refine (OZ.out _ (((Below.refl wr.heap.size wr).drew).alloc (((Below.refl wr.heap.size wr).drew).size) _)).mono ?_
                rintro e w4 ⟨rfl, rfl⟩
                refine hK.out _ _ (MK.out _ (((Below.refl wr.heap.size wr).drew).alloc (((Below.refl wr.heap.size wr).drew).size) _)) (fun hHeld12 => ?_)
                clear hK K
                refine wpAnyH_take (i := 13) (v := ?_) rfl (by kernel_rfl) (by kernel_rfl) (by kernel_rfl) (fun _ _ _ h => h) (Or.inl ⟨by rfl, ?_⟩) (by assumption) ?_
                rotate_left
                · (intro w' hSw; (try dsimp only at hSw); go_simp; (try (with_reducible rfl)))
                simp only [Act.put, List.getElem_toArray, List.getElem_cons_succ, List.getElem_cons_zero, List.setIfInBounds_toArray, List.set_cons_succ, List.set_cons_zero]
                refine wpAnyH_ready (rs := [16]) (by kernel_rfl) (by simp) ?_
                refine AllReadyH.cons rfl (fun K hK => ?_) ?_
                · go_simp
                  refine (OM.out _ ((Below.refl wr.heap.size wr).drew)).mono ?_
                  rintro e w4 ⟨rfl, rfl⟩
                  refine hK.out _ _ (MK.out _ (((Below.refl wr.heap.size wr).drew).alloc (((Below.refl wr.heap.size wr).drew).size) _)) (fun hHeld16 => ?_)
                  clear hK K
                  refine wpAnyH_take (i := 17) (v := ?_) rfl (by kernel_rfl) (by kernel_rfl) (by kernel_rfl) (fun _ _ _ h => h) (Or.inl ⟨by rfl, ?_⟩) (by assumption) ?_
                  rotate_left
                  · (intro w' hSw; (try dsimp only at hSw); go_simp; (try (with_reducible rfl)))
                  simp only [Act.put, List.getElem_toArray, List.getElem_cons_succ, List.getElem_cons_zero, List.setIfInBounds_toArray, List.set_cons_succ, List.set_cons_zero]
                  refine wpAnyH_take (i := 18) (v := ?_) rfl (by kernel_rfl) (by kernel_rfl) (by kernel_rfl) (fun _ _ _ h => h) (Or.inl ⟨by rfl, ?_⟩) (by assumption) ?_
                  rotate_left
                  · (intro w' hSw; (try dsimp only at hSw); go_simp; (try (with_reducible rfl)))
                  simp only [Act.put, List.getElem_toArray, List.getElem_cons_succ, List.getElem_cons_zero, List.setIfInBounds_toArray, List.set_cons_succ, List.set_cons_zero]
                  refine wpAnyH_take (i := 19) (v := ?_) rfl (by kernel_rfl) (by kernel_rfl) (by kernel_rfl) (fun _ _ _ h => h) (Or.inl ⟨by rfl, ?_⟩) (by assumption) ?_
                  rotate_left
                  · (intro w' hSw; (try dsimp only at hSw); go_simp; (try (with_reducible rfl)))
                  simp only [Act.put, List.getElem_toArray, List.getElem_cons_succ, List.getElem_cons_zero, List.setIfInBounds_toArray, List.set_cons_succ, List.set_cons_zero]
                  refine wpAnyH_done (by kernel_rfl) ?_ _
                  go_wp2
                  go_ret
                  exact ⟨rfl, HBW.out.trans ((((Below.refl wr.heap.size wr).drew).alloc (((Below.refl wr.heap.size wr).drew).size) _).mono HBW.out.size)⟩
                exact AllReadyH.nil
              exact AllReadyH.nil
            exact AllReadyH.nil
          refine AllReadyH.cons rfl (fun K hK => ?_) ?_
          · go_simp
            simp only [HMK.out, go_sem]
            refine hK.out _ _ (MK.out _ (((Below.refl wr.heap.size wr).drew).alloc (((Below.refl wr.heap.size wr).drew).size) _)) (fun hHeld15 => ?_)
            clear hK K
            refine wpAnyH_ready (rs := [9]) (by kernel_rfl) (by simp) ?_
            refine AllReadyH.cons rfl (fun K hK => ?_) ?_
            · go_simp
              refine (OB.out _ (((Below.refl wr.heap.size wr).drew).alloc (((Below.refl wr.heap.size wr).drew).size) _)).mono ?_
              rintro e w4 ⟨rfl, rfl⟩
              refine hK.out _ _ (MK.out _ (((Below.refl wr.heap.size wr).drew).alloc (((Below.refl wr.heap.size wr).drew).size) _)) (fun hHeld9 => ?_)
              clear hK K
              refine wpAnyH_take (i := 10) (v := ?_) rfl (by kernel_rfl) (by kernel_rfl) (by kernel_rfl) (fun _ _ _ h => h) (Or.inl ⟨by rfl, ?_⟩) (by assumption) ?_
              rotate_left
              · (intro w' hSw; (try dsimp only at hSw); go_simp; (try (with_reducible rfl)))
              simp only [Act.put, List.getElem_toArray, List.getElem_cons_succ, List.getElem_cons_zero, List.setIfInBounds_toArray, List.set_cons_succ, List.set_cons_zero]
              refine wpAnyH_ready (rs := [12]) (by kernel_rfl) (by simp) ?_
              refine AllReadyH.cons rfl (fun K hK => ?_) ?_
              · go_simp
                refine (OZ.out _ (((Below.refl wr.heap.size wr).drew).alloc (((Below.refl wr.heap.size wr).drew).size) _)).mono ?_
                rintro e w4 ⟨rfl, rfl⟩
                refine hK.out _ _ (MK.out _ (((Below.refl wr.heap.size wr).drew).alloc (((Below.refl wr.heap.size wr).drew).size) _)) (fun hHeld12 => ?_)
                clear hK K
                refine wpAnyH_take (i := 13) (v := ?_) rfl (by kernel_rfl) (by kernel_rfl) (by kernel_rfl) (fun _ _ _ h => h) (Or.inl ⟨by rfl, ?_⟩) (by assumption) ?_
                rotate_left
                · (intro w' hSw; (try dsimp only at hSw); go_simp; (try (with_reducible rfl)))
                simp only [Act.put, List.getElem_toArray, List.getElem_cons_succ, List.getElem_cons_zero, List.setIfInBounds_toArray, List.set_cons_succ, List.set_cons_zero]
                refine wpAnyH_ready (rs := [16]) (by kernel_rfl) (by simp) ?_
                refine AllReadyH.cons rfl (fun K hK => ?_) ?_
                · go_simp
                  refine (OM.out _ ((Below.refl wr.heap.size wr).drew)).mono ?_
                  rintro e w4 ⟨rfl, rfl⟩
                  refine hK.out _ _ (MK.out _ (((Below.refl wr.heap.size wr).drew).alloc (((Below.refl wr.heap.size wr).drew).size) _)) (fun hHeld16 => ?_)
                  clear hK K
                  refine wpAnyH_take (i := 17) (v := ?_) rfl (by kernel_rfl) (by kernel_rfl) (by kernel_rfl) (fun _ _ _ h => h) (Or.inl ⟨by rfl, ?_⟩) (by assumption) ?_
                  rotate_left
                  · (intro w' hSw; (try dsimp only at hSw); go_simp; (try (with_reducible rfl)))
                  simp only [Act.put, List.getElem_toArray, List.getElem_cons_succ, List.getElem_cons_zero, List.setIfInBounds_toArray, List.set_cons_succ, List.set_cons_zero]
                  refine wpAnyH_take (i := 18) (v := ?_) rfl (by kernel_rfl) (by kernel_rfl) (by kernel_rfl) (fun _ _ _ h => h) (Or.inl ⟨by rfl, ?_⟩) (by assumption) ?_
                  rotate_left
                  · (intro w' hSw; (try dsimp only at hSw); go_simp; (try (with_reducible rfl)))
                  simp only [Act.put, List.getElem_toArray, List.getElem_cons_succ, List.getElem_cons_zero, List.setIfInBounds_toArray, List.set_cons_succ, List.set_cons_zero]
                  refine wpAnyH_take (i := 19) (v := ?_) rfl (by kernel_rfl) (by kernel_rfl) (by kernel_rfl) (fun _ _ _ h => h) (Or.inl ⟨by rfl, ?_⟩) (by assumption) ?_
                  rotate_left
                  · (intro w' hSw; (try dsimp only at hSw); go_simp; (try (with_reducible rfl)))
                  simp only [Act.put, List.getElem_toArray, List.getElem_cons_succ, List.getElem_cons_zero, List.setIfInBounds_toArray, List.set_cons_succ, List.set_cons_zero]
                  refine wpAnyH_done (by kernel_rfl) ?_ _
                  go_wp2
                  go_ret
                  exact ⟨rfl, HBW.out.trans ((((Below.refl wr.heap.size wr).drew).alloc (((Below.refl wr.heap.size wr).drew).size) _).mono HBW.out.size)⟩
                exact AllReadyH.nil
              exact AllReadyH.nil
            exact AllReadyH.nil
          exact AllReadyH.nil
        refine AllReadyH.cons rfl (fun K hK => ?_) ?_
        · go_simp
          simp only [HMK.out, go_sem]
          refine hK.out _ _ (MK.out _ (((Below.refl wr.heap.size wr).drew).alloc (((Below.refl wr.heap.size wr).drew).size) _)) (fun hHeld15 => ?_)
          clear hK K
          refine wpAnyH_ready (rs := [5]) (by kernel_rfl) (by simp) ?_
          refine AllReadyH.cons rfl (fun K hK => ?_) ?_
          · go_simp
            refine (OA.out _ (((Below.refl wr.heap.size wr).drew).alloc (((Below.refl wr.heap.size wr).drew).size) _)).mono ?_
            rintro e w4 ⟨rfl, rfl⟩
            refine hK.out _ _ (MK.out _ (((Below.refl wr.heap.size wr).drew).alloc (((Below.refl wr.heap.size wr).drew).size) _)) (fun hHeld5 => ?_)
            clear hK K
            refine wpAnyH_ready (rs := [9]) (by kernel_rfl) (by simp) ?_
            refine AllReadyH.cons rfl (fun K hK => ?_) ?_
            · go_simp
              refine (OB.out _ (((Below.refl wr.heap.size wr).drew).alloc (((Below.refl wr.heap.size wr).drew).size) _)).mono ?_
              rintro e w4 ⟨rfl, rfl⟩
              refine hK.out _ _ (MK.out _ (((Below.refl wr.heap.size wr).drew).alloc (((Below.refl wr.heap.size wr).drew).size) _)) (fun hHeld9 => ?_)
              clear hK K
              refine wpAnyH_take (i := 10) (v := ?_) rfl (by kernel_rfl) (by kernel_rfl) (by kernel_rfl) (fun _ _ _ h => h) (Or.inl ⟨by rfl, ?_⟩) (by assumption) ?_
              rotate_left
              · (intro w' hSw; (try dsimp only at hSw); go_simp; (try (with_reducible rfl)))
              simp only [Act.put, List.getElem_toArray, List.getElem_cons_succ, List.getElem_cons_zero, List.setIfInBounds_toArray, List.set_cons_succ, List.set_cons_zero]
              refine wpAnyH_ready (rs := [12]) (by kernel_rfl) (by simp) ?_
              refine AllReadyH.cons rfl (fun K hK => ?_) ?_
              · go_simp
                refine (OZ.out _ (((Below.refl wr.heap.size wr).drew).alloc (((Below.refl wr.heap.size wr).drew).size) _)).mono ?_
                rintro e w4 ⟨rfl, rfl⟩
                refine hK.out _ _ (MK.out _ (((Below.refl wr.heap.size wr).drew).alloc (((Below.refl wr.heap.size wr).drew).size) _)) (fun hHeld12 => ?_)
                clear hK K
                refine wpAnyH_take (i := 13) (v := ?_) rfl (by kernel_rfl) (by kernel_rfl) (by kernel_rfl) (fun _ _ _ h => h) (Or.inl ⟨by rfl, ?_⟩) (by assumption) ?_
                rotate_left
                · (intro w' hSw; (try dsimp only at hSw); go_simp; (try (with_reducible rfl)))
                simp only [Act.put, List.getElem_toArray, List.getElem_cons_succ, List.getElem_cons_zero, List.setIfInBounds_toArray, List.set_cons_succ, List.set_cons_zero]
                refine wpAnyH_ready (rs := [16]) (by kernel_rfl) (by simp) ?_
                refine AllReadyH.cons rfl (fun K hK => ?_) ?_
                · go_simp
                  refine (OM.out _ ((Below.refl wr.heap.size wr).drew)).mono ?_
                  rintro e w4 ⟨rfl, rfl⟩
                  refine hK.out _ _ (MK.out _ (((Below.refl wr.heap.size wr).drew).alloc (((Below.refl wr.heap.size wr).drew).size) _)) (fun hHeld16 => ?_)
                  clear hK K
                  refine wpAnyH_take (i := 17) (v := ?_) rfl (by kernel_rfl) (by kernel_rfl) (by kernel_rfl) (fun _ _ _ h => h) (Or.inl ⟨by rfl, ?_⟩) (by assumption) ?_
                  rotate_left
                  · (intro w' hSw; (try dsimp only at hSw); go_simp; (try (with_reducible rfl)))
                  simp only [Act.put, List.getElem_toArray, List.getElem_cons_succ, List.getElem_cons_zero, List.setIfInBounds_toArray, List.set_cons_succ, List.set_cons_zero]
                  refine wpAnyH_take (i := 18) (v := ?_) rfl (by kernel_rfl) (by kernel_rfl) (by kernel_rfl) (fun _ _ _ h => h) (Or.inl ⟨by rfl, ?_⟩) (by assumption) ?_
                  rotate_left
                  · (intro w' hSw; (try dsimp only at hSw); go_simp; (try (with_reducible rfl)))
                  simp only [Act.put, List.getElem_toArray, List.getElem_cons_succ, List.getElem_cons_zero, List.setIfInBounds_toArray, List.set_cons_succ, List.set_cons_zero]
                  refine wpAnyH_take (i := 19) (v := ?_) rfl (by kernel_rfl) (by kernel_rfl) (by kernel_rfl) (fun _ _ _ h => h) (Or.inl ⟨by rfl, ?_⟩) (by assumption) ?_
                  rotate_left
                  · (intro w' hSw; (try dsimp only at hSw); go_simp; (try (with_reducible rfl)))
                  simp only [Act.put, List.getElem_toArray, List.getElem_cons_succ, List.getElem_cons_zero, List.setIfInBounds_toArray, List.set_cons_succ, List.set_cons_zero]
                  refine wpAnyH_done (by kernel_rfl) ?_ _
                  go_wp2
                  go_ret
                  exact ⟨rfl, HBW.out.trans ((((Below.refl wr.heap.size wr).drew).alloc (((Below.refl wr.heap.size wr).drew).size) _).mono HBW.out.size)⟩
                exact AllReadyH.nil
              exact AllReadyH.nil
            exact AllReadyH.nil
          exact AllReadyH.nil
        exact AllReadyH.nil
end Go.Proofs.YtpighdioomjnmabDoor
