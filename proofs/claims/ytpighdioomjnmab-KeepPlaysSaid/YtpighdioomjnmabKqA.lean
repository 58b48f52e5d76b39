/-
  Layer 14: the contract of the document's Put. Written by an AI agent.
-/
import Derived.Test.YtpighdioomjnmabKpZ
import Derived.Deep.RegionLaw
namespace Go.Proofs.Ytpighdioomjnmab
open Go.RowKit Go.Shelf
set_option linter.unusedVariables false
set_option linter.unusedSimpArgs false

/-- Two rows of the call's own, apart. -/
structure Two2 (B : Nat) (w : World) (v : Value) (n : Nat) (xs : List Value) (u : Value) (m : Nat) (ys : List Value) : Prop where
  a : w.ownsRow 0 3 1 v n xs
  x : w.ownsRow 0 3 1 u m ys
  ba : ∀ g, v.ownBlock = some g → B ≤ g
  bx : ∀ g, u.ownBlock = some g → B ≤ g
  ne : ∀ g, v.ownBlock = some g → u.ownBlock ≠ some g

theorem Two2.pushA {B : Nat} {w w5 : World} {v u v5 : Value} {n m n5 : Nat} {xs ys xs5 : List Value} (h : Two2 B w v n xs u m ys) (hB : B ≤ w.heap.size) (ob : Obj) (ho : w5.ownsRow 0 3 1 v5 n5 xs5) (hg : (w.alloc ob).grownBy w5 v.ownBlock)
    (hb : v5.ownBlock = v.ownBlock ∨ v5.ownBlock = some (w.alloc ob).heap.size) : Two2 B w5 v5 n5 xs5 u m ys ∧ Keeps (fun k => B ≤ k) w w5 := by
  have hs : (w.alloc ob).heap.size = w.heap.size + 1 := by simp
  refine ⟨⟨ho, ownsRow_keep h.x fun k hk => ?_, fun g hg2 => ?_, h.bx, fun g hg2 hu => ?_⟩, ?_⟩
  · have hl := own_ltk h.x hk
    rw [hg.block k (by omega) fun e => h.ne k e.symm hk]
    exact Below.heap_alloc w ob k hl
  · rcases hb with e | e
    · exact h.ba g (e ▸ hg2)
    · rw [e] at hg2
      have := Option.some.inj hg2
      omega
  · have hl := own_ltk h.x hu
    rcases hb with e | e
    · exact h.ne g (e ▸ hg2) hu
    · rw [e] at hg2
      have := Option.some.inj hg2
      omega
  · exact ((Keeps.refl _ w).alloc ob).grown hg fun k e _ => h.ba k e

theorem Two2.pushX {B : Nat} {w w5 : World} {v u u5 : Value} {n m n5 : Nat} {xs ys xs5 : List Value} (h : Two2 B w v n xs u m ys) (hB : B ≤ w.heap.size) (ob : Obj) (ho : w5.ownsRow 0 3 1 u5 n5 xs5) (hg : (w.alloc ob).grownBy w5 u.ownBlock)
    (hb : u5.ownBlock = u.ownBlock ∨ u5.ownBlock = some (w.alloc ob).heap.size) : Two2 B w5 v n xs u5 n5 xs5 ∧ Keeps (fun k => B ≤ k) w w5 := by
  have h' : Two2 B w u m ys v n xs := ⟨h.x, h.a, h.bx, h.ba, fun g h1 h2 => h.ne g h2 h1⟩
  have q := h'.pushA hB ob ho hg hb
  exact ⟨⟨q.1.x, q.1.a, q.1.bx, q.1.ba, fun g h1 h2 => q.1.ne g h2 h1⟩, q.2⟩

theorem alloc_own {w : World} {v : Value} {n : Nat} {xs : List Value} (h : w.ownsRow 0 3 1 v n xs) (ob : Obj) : (w.alloc ob).ownsRow 0 3 1 v n xs := ownsRow_keep h fun k hk => Below.heap_alloc w ob k (own_ltk h hk)

theorem refM_length {L : List (Int × Int)} {a x : Int} {r k : Nat} (hk : k ≤ L.length) : (refM L a x r k).length ≤ k + 1 := by
  unfold refM
  split
  · rw [List.length_take]; omega
  · rw [List.length_append, List.length_cons]
    have := List.length_filter_le (fun p : Int × Int => decide (p.1 ≠ a)) ((L.take k).drop r)
    rw [List.length_drop] at this
    rw [List.length_take] at this ⊢
    omega
theorem tv_one1 (p : Int × Int) : tv [p] = [.int .i64 p.1] := rfl
theorem xv_one1 (p : Int × Int) : xv [p] = [.int .i64 p.2] := rfl

set_option maxRecDepth 100000 in
set_option maxHeartbeats 4000000 in
theorem dput_any (w : World) (S : Nat → Prop) (yp : Nat) (mx : Int) (va vx : Value) (L : List (Int × Int)) (H : DocIs w S yp mx va vx L) (hn : L.length ≤ 900) (hmx : 1 ≤ mx) (hup : Up L) (a x : Int) (r : Nat) (hr : r ≤ L.length)
    (h1 : ∀ t, t < r → (L.getD t (0, 0)).1 < a) (h2 : ∀ t, r ≤ t → t < L.length → a ≤ (L.getD t (0, 0)).1) :
    Calls Try.prog 15 #[.pointer (some ⟨yp, 0, none⟩), .int .i64 a, .int .i64 x] w (DocDone S yp mx (cutK mx (refF L a x r)) w) := by
  obtain ⟨i0, hi, hz0, hz1, hz2⟩ := info_parts info3k
  obtain ⟨A, ca, rfl⟩ := own_formk H.ownA
  obtain ⟨Bx, cb, rfl⟩ := own_formk H.ownX
  obtain ⟨N, hN⟩ : ∃ N : Nat, N = L.length := ⟨_, rfl⟩
  obtain ⟨B0, hB0⟩ : ∃ B0 : Nat, B0 = w.heap.size := ⟨_, rfl⟩
  have hA : ∀ k, k < N → ∃ g, A = some ⟨g, 0, none⟩ ∧ w.cell? ⟨g, k, none⟩ = some (.int .i64 (L.getD k (0, 0)).1) := fun k hk => time_at H.ownA rfl (by omega)
  have hB : ∀ k, k < N → ∃ g, Bx = some ⟨g, 0, none⟩ ∧ w.cell? ⟨g, k, none⟩ = some (.int .i64 (L.getD k (0, 0)).2) := fun k hk => num_at H.ownX rfl (by omega)
  have c1 := H.c1
  have c2 := H.c2
  have hlt := H.lt
  rw [← hN] at c1 c2 hn
  have hrN : r ≤ N := by omega
  have HH := Lib.hid H
  have HA := Lib.hid hA
  have HB := Lib.hid hB
  have HN := Lib.hid hN
  have H1 := Lib.hid h1
  have H2 := Lib.hid h2
  have HUp := Lib.hid hup
  have HB0 := Lib.hid hB0
  have C1 := Lib.hid c1
  have C2 := Lib.hid c2
  have k0 : Keeps (fun _ => False) w ((w.alloc (.cells #[] 3)).alloc (.cells #[] 3)) := ((Keeps.refl _ w).alloc _).alloc _
  have t0 : Two2 B0 ((w.alloc (.cells #[] 3)).alloc (.cells #[] 3)) (.slice (some ⟨w.heap.size, 0, none⟩) 0 0) 0 (tv []) (.slice (some ⟨w.heap.size + 1, 0, none⟩) 0 0) 0 (xv []) := by
    have e1 := World.ownsRow_lit (base := 0) (e := 3) (size := 1) w #[] 0 (Nat.zero_le _) (by unfold maxLen; omega) rfl
    have e2 := World.ownsRow_lit (base := 0) (e := 3) (size := 1) (w.alloc (.cells #[] 3)) #[] 0 (Nat.zero_le _) (by unfold maxLen; omega) rfl
    rw [World.size_alloc] at e2
    exact ⟨alloc_own e1 _, e2, fun g hg => by have : w.heap.size = g := Option.some.inj hg; omega, fun g hg => by have : w.heap.size + 1 = g := Option.some.inj hg; omega, fun g hg hg2 => by have : w.heap.size = g := Option.some.inj hg; have : w.heap.size + 1 = g := Option.some.inj hg2; omega⟩
  have K0 := Lib.hid k0
  have T0 := Lib.hid t0
  obtain ⟨F, hF⟩ : ∃ F : List (Int × Int), F = refF L a x r := ⟨_, rfl⟩
  rw [← hF]
  have HFe := Lib.hid hF
  clear H hN hA hB h1 h2 hup hB0 hr c1 c2 k0 t0 hF
  go_enter Try.func15, Try.ntmps15
  go_upto_region 2 with fail
  obtain ⟨w2, hw2⟩ : ∃ w2 : World, w2 = (w.alloc (.cells #[] 3)).alloc (.cells #[] 3) := ⟨_, rfl⟩
  rw [← hw2] at K0 T0
  try rw [← hw2]
  clear hw2
  go_upto_block 0 with fail
  go_cut [6, 7, 8] (fun s6 s7 s8 wx => s8 = .bool (decide (r < N)) ∧ Two2 B0 wx s6 (refM L a x r N).length (tv (refM L a x r N)) s7 (refM L a x r N).length (xv (refM L a x r N)) ∧ Keeps (fun _ => False) w wx)
  case first =>
    go_wp2_with fail
    go_loopw [6, 7, 8, 9] (fun s6 s7 s8 s9 wr => ∃ k m : Nat, k ≤ N ∧ m = (refM L a x r k).length ∧ s8 = .bool (decide (r < k)) ∧ s9 = .int .i64 (k : Int) ∧ Two2 B0 wr s6 m (tv (refM L a x r k)) s7 m (xv (refM L a x r k)) ∧ Keeps (fun _ => False) w wr) (fun _ _ _ s9 _ => N - (intOf s9).toNat)
    case atStart => exact ⟨0, 0, by omega, by rw [refM_zero]; rfl, by simp, rfl, by rw [refM_zero]; exact T0.out, K0.out⟩
    case round =>
      obtain ⟨k, m, hk, hm, rfl, rfl, ht, kr⟩ := hrel
      by_cases hkN : k < N
      · have hkN' : (k : Int) < (N : Int) := by omega
        have hk0 : (0 : Int) ≤ (k : Int) := by omega
        have hkL : k < L.length := by rw [← HN.out]; exact hkN
        obtain ⟨ga, rfl, ha⟩ := HA.out k hkN
        obtain ⟨gb, rfl, hb⟩ := HB.out k hkN
        obtain ⟨y, hy⟩ : ∃ y : Int, y = (L.getD k (0, 0)).1 := ⟨_, rfl⟩
        obtain ⟨z, hz⟩ : ∃ z : Int, z = (L.getD k (0, 0)).2 := ⟨_, rfl⟩
        have hp : L.getD k (0, 0) = (y, z) := by rw [hy, hz]
        have hml : m ≤ k + 1 := by rw [hm]; exact refM_length (by omega)
        rw [← hy] at ha
        rw [← hz] at hb
        have FA : Hid (∀ wq, Keeps (fun _ => False) w wq → wq.cell? ⟨yp, 1, none⟩ = some (.slice (some ⟨ga, 0, none⟩) N ca) ∧ wq.cell? ⟨yp, 2, none⟩ = some (.slice (some ⟨gb, 0, none⟩) N cb) ∧ wq.cell? ⟨ga, k, none⟩ = some (.int .i64 y) ∧ wq.cell? ⟨gb, k, none⟩ = some (.int .i64 z)) := fun wq hq =>
          ⟨(hq.cell hlt (fun h => h)).trans C1.out, (hq.cell hlt (fun h => h)).trans C2.out, (hq.cell (cell_ltk ha) (fun h => h)).trans ha, (hq.cell (cell_ltk hb) (fun h => h)).trans hb⟩
        obtain ⟨d1, d2, d3, d4⟩ := FA.out wr kr
        have KR := Lib.hid kr
        have TT := Lib.hid ht
        have HM := Lib.hid hm
        have HPp := Lib.hid hp
        have h1k := H1.out k
        have h2k := H2.out k
        rw [← hy] at h1k h2k
        clear ha hb hy hz hp hm ht kr
        rcases Nat.lt_trichotomy k r with hkr | hkr | hkr
        · have hlt1 : y < a := h1k hkr
          have hge : ¬ (a ≤ y) := by omega
          have hged : decide (a ≤ y) = false := decide_eq_false hge
          have hne : ¬ (y = a) := by omega
          have hned : decide (y = a) = false := decide_eq_false hne
          have hdn : decide (r < k) = false := decide_eq_false (by omega)
          have hdn2 : decide (r < k + 1) = false := decide_eq_false (by omega)
          rw [hdn]
          clear h1k h2k
          go_upto_region 12 with (at_builtin; refine wpList_append_atk rfl (.tmp 53) (.tmp 61) 35 rfl 0 3 i0 _ 1 8 Try.underlying35 hi hz0 hz1 hz2 (by rfl) (by omega) _ m _ (by rfl) (alloc_own TT.out.a _) ⟨wr.heap.size, 0, none⟩ 1 1 [.int .i64 y] (by rfl) (by rfl) (news1 _ _ (by rfl)) (by simp [Value.oneCell']) (by omega) (by omega) (Nat.zero_le _) ?_
                                  intro v6 w6 h6 g6 b6
                                  have t6 := TT.out.pushA (by have := HB0.out; have := KR.out.size; omega) _ h6 g6 b6
                                  have T6 := Lib.hid t6.1
                                  have K6 := Lib.hid (KR.out.trans (T := fun k => B0 ≤ k) t6.2 (fun k hk (h : B0 ≤ k) => by have := HB0.out; show False; omega))
                                  clear h6 g6 b6 t6
                                  obtain ⟨f1, f2, f3, f4⟩ := FA.out w6 K6.out)
          go_wp2_with (at_builtin; refine wpList_append_atk rfl (.tmp 63) (.tmp 71) 35 rfl 0 3 i0 _ 1 8 Try.underlying35 hi hz0 hz1 hz2 (by rfl) (by omega) _ m _ (by rfl) (alloc_own T6.out.x _) ⟨w6.heap.size, 0, none⟩ 1 1 [.int .i64 z] (by rfl) (by rfl) (news1 _ _ (by rfl)) (by simp [Value.oneCell']) (by omega) (by omega) (Nat.zero_le _) ?_
                       intro v7 w7 h7 g7 b7
                       have t7 := T6.out.pushX (by have := HB0.out; have := K6.out.size; omega) _ h7 g7 b7
                       have T7 := Lib.hid t7.1
                       have K7 := Lib.hid (K6.out.trans (T := fun k => B0 ≤ k) t7.2 (fun k hk (h : B0 ≤ k) => by have := HB0.out; show False; omega))
                       clear h7 g7 b7 t7)
          go_roundw
          case rel =>
            refine ⟨k + 1, m + 1, by omega, ?_, by rw [hdn2], by go_num, ?_, K7.out⟩
            · rw [refM_low hkr hkL, List.length_append, ← HM.out]; rfl
            · rw [refM_low hkr hkL, HPp.out, tv_append, xv_append, tv_one1, xv_one1]; exact T7.out
          case measure => simp [intOf]; omega
        · subst hkr
          have hle := h2k (Nat.le_refl _) hkL
          have hged : decide (a ≤ y) = true := decide_eq_true hle
          have hdn : decide (k < k) = false := decide_eq_false (by omega)
          have hdn2 : decide (k < k + 1) = true := decide_eq_true (by omega)
          rw [hdn]
          clear h1k h2k
          by_cases hya : y = a
          · have hyd : decide (y = a) = true := decide_eq_true hya
            go_upto_region 8 with (at_builtin; refine wpList_append_atk rfl (.tmp 36) (.tmp 38) 35 rfl 0 3 i0 _ 1 8 Try.underlying35 hi hz0 hz1 hz2 (by rfl) (by omega) _ m _ (by rfl) (alloc_own TT.out.a _) ⟨wr.heap.size, 0, none⟩ 1 1 [.int .i64 a] (by rfl) (by rfl) (news1 _ _ (by rfl)) (by simp [Value.oneCell']) (by omega) (by omega) (Nat.zero_le _) ?_
                                   intro v6 w6 h6 g6 b6
                                   have t6 := TT.out.pushA (by have := HB0.out; have := KR.out.size; omega) _ h6 g6 b6
                                   have T6 := Lib.hid t6.1
                                   have K6 := Lib.hid (KR.out.trans (T := fun k => B0 ≤ k) t6.2 (fun k hk (h : B0 ≤ k) => by have := HB0.out; show False; omega))
                                   clear h6 g6 b6 t6)
            go_wp2_with (at_builtin; refine wpList_append_atk rfl (.tmp 40) (.tmp 42) 35 rfl 0 3 i0 _ 1 8 Try.underlying35 hi hz0 hz1 hz2 (by rfl) (by omega) _ m _ (by rfl) (alloc_own T6.out.x _) ⟨w6.heap.size, 0, none⟩ 1 1 [.int .i64 x] (by rfl) (by rfl) (news1 _ _ (by rfl)) (by simp [Value.oneCell']) (by omega) (by omega) (Nat.zero_le _) ?_
                         intro v7 w7 h7 g7 b7
                         have t7 := T6.out.pushX (by have := HB0.out; have := K6.out.size; omega) _ h7 g7 b7
                         have T7 := Lib.hid t7.1
                         have K7 := Lib.hid (K6.out.trans (T := fun k => B0 ≤ k) t7.2 (fun k hk (h : B0 ≤ k) => by have := HB0.out; show False; omega))
                         clear h7 g7 b7 t7
                         obtain ⟨f1, f2, f3, f4⟩ := FA.out w7 K7.out)
            go_roundw
            case rel =>
              refine ⟨k + 1, m + 1, by omega, ?_, by rw [hdn2], by go_num, ?_, K7.out⟩
              · rw [refM_at_eq hkL (by rw [HPp.out]; exact hya), List.length_append, ← HM.out]; rfl
              · rw [refM_at_eq hkL (by rw [HPp.out]; exact hya), tv_append, xv_append, tv_one1, xv_one1]; exact T7.out
            case measure => simp [intOf]; omega
          · have hyd : decide (y = a) = false := decide_eq_false hya
            go_upto_region 8 with (at_builtin; refine wpList_append_atk rfl (.tmp 36) (.tmp 38) 35 rfl 0 3 i0 _ 1 8 Try.underlying35 hi hz0 hz1 hz2 (by rfl) (by omega) _ m _ (by rfl) (alloc_own TT.out.a _) ⟨wr.heap.size, 0, none⟩ 1 1 [.int .i64 a] (by rfl) (by rfl) (news1 _ _ (by rfl)) (by simp [Value.oneCell']) (by omega) (by omega) (Nat.zero_le _) ?_
                                   intro v6 w6 h6 g6 b6
                                   have t6 := TT.out.pushA (by have := HB0.out; have := KR.out.size; omega) _ h6 g6 b6
                                   have T6 := Lib.hid t6.1
                                   have K6 := Lib.hid (KR.out.trans (T := fun k => B0 ≤ k) t6.2 (fun k hk (h : B0 ≤ k) => by have := HB0.out; show False; omega))
                                   clear h6 g6 b6 t6)
            go_upto_region 11 with (at_builtin; refine wpList_append_atk rfl (.tmp 40) (.tmp 42) 35 rfl 0 3 i0 _ 1 8 Try.underlying35 hi hz0 hz1 hz2 (by rfl) (by omega) _ m _ (by rfl) (alloc_own T6.out.x _) ⟨w6.heap.size, 0, none⟩ 1 1 [.int .i64 x] (by rfl) (by rfl) (news1 _ _ (by rfl)) (by simp [Value.oneCell']) (by omega) (by omega) (Nat.zero_le _) ?_
                                    intro v7 w7 h7 g7 b7
                                    have t7 := T6.out.pushX (by have := HB0.out; have := K6.out.size; omega) _ h7 g7 b7
                                    have T7 := Lib.hid t7.1
                                    have K7 := Lib.hid (K6.out.trans (T := fun k => B0 ≤ k) t7.2 (fun k hk (h : B0 ≤ k) => by have := HB0.out; show False; omega))
                                    clear h7 g7 b7 t7
                                    obtain ⟨f1, f2, f3, f4⟩ := FA.out w7 K7.out)
            go_upto_region 12 with (at_builtin; refine wpList_append_atk rfl (.tmp 53) (.tmp 61) 35 rfl 0 3 i0 _ 1 8 Try.underlying35 hi hz0 hz1 hz2 (by rfl) (by omega) _ (m + 1) _ (by rfl) (alloc_own T7.out.a _) ⟨w7.heap.size, 0, none⟩ 1 1 [.int .i64 y] (by rfl) (by rfl) (news1 _ _ (by rfl)) (by simp [Value.oneCell']) (by omega) (by omega) (Nat.zero_le _) ?_
                                    intro v8 w8 h8 g8 b8
                                    have t8 := T7.out.pushA (by have := HB0.out; have := K7.out.size; omega) _ h8 g8 b8
                                    have T8 := Lib.hid t8.1
                                    have K8 := Lib.hid (K7.out.trans (T := fun k => B0 ≤ k) t8.2 (fun k hk (h : B0 ≤ k) => by have := HB0.out; show False; omega))
                                    clear h8 g8 b8 t8
                                    obtain ⟨j1, j2, j3, j4⟩ := FA.out w8 K8.out)
            go_wp2_with (at_builtin; refine wpList_append_atk rfl (.tmp 63) (.tmp 71) 35 rfl 0 3 i0 _ 1 8 Try.underlying35 hi hz0 hz1 hz2 (by rfl) (by omega) _ (m + 1) _ (by rfl) (alloc_own T8.out.x _) ⟨w8.heap.size, 0, none⟩ 1 1 [.int .i64 z] (by rfl) (by rfl) (news1 _ _ (by rfl)) (by simp [Value.oneCell']) (by omega) (by omega) (Nat.zero_le _) ?_
                         intro v9 w9 h9 g9 b9
                         have t9 := T8.out.pushX (by have := HB0.out; have := K8.out.size; omega) _ h9 g9 b9
                         have T9 := Lib.hid t9.1
                         have K9 := Lib.hid (K8.out.trans (T := fun k => B0 ≤ k) t9.2 (fun k hk (h : B0 ≤ k) => by have := HB0.out; show False; omega))
                         clear h9 g9 b9 t9)
            go_roundw
            case rel =>
              refine ⟨k + 1, m + 2, by omega, ?_, by rw [hdn2], by go_num, ?_, K9.out⟩
              · rw [refM_at_ne hkL (by rw [HPp.out]; exact hya), List.length_append, List.length_append, ← HM.out]; rfl
              · rw [refM_at_ne hkL (by rw [HPp.out]; exact hya), HPp.out, tv_append, xv_append, tv_append, xv_append, tv_one1, xv_one1, tv_one1, xv_one1]; exact T9.out
            case measure => simp [intOf]; omega
        · have hle := h2k (by omega) hkL
          have hdn : decide (r < k) = true := decide_eq_true hkr
          have hdn2 : decide (r < k + 1) = true := decide_eq_true (by omega)
          have hne : ¬ (y = a) := by
            have h3 := HUp.out r k hkr hkL
            have h4 := H2.out r (Nat.le_refl _) (by omega)
            rw [HPp.out] at h3
            have h5 : (L.getD r (0, 0)).1 < y := h3
            omega
          have hned : decide (y = a) = false := decide_eq_false hne
          rw [hdn]
          clear h1k h2k
          go_upto_region 12 with (at_builtin; refine wpList_append_atk rfl (.tmp 53) (.tmp 61) 35 rfl 0 3 i0 _ 1 8 Try.underlying35 hi hz0 hz1 hz2 (by rfl) (by omega) _ m _ (by rfl) (alloc_own TT.out.a _) ⟨wr.heap.size, 0, none⟩ 1 1 [.int .i64 y] (by rfl) (by rfl) (news1 _ _ (by rfl)) (by simp [Value.oneCell']) (by omega) (by omega) (Nat.zero_le _) ?_
                                  intro v6 w6 h6 g6 b6
                                  have t6 := TT.out.pushA (by have := HB0.out; have := KR.out.size; omega) _ h6 g6 b6
                                  have T6 := Lib.hid t6.1
                                  have K6 := Lib.hid (KR.out.trans (T := fun k => B0 ≤ k) t6.2 (fun k hk (h : B0 ≤ k) => by have := HB0.out; show False; omega))
                                  clear h6 g6 b6 t6
                                  obtain ⟨f1, f2, f3, f4⟩ := FA.out w6 K6.out)
          go_wp2_with (at_builtin; refine wpList_append_atk rfl (.tmp 63) (.tmp 71) 35 rfl 0 3 i0 _ 1 8 Try.underlying35 hi hz0 hz1 hz2 (by rfl) (by omega) _ m _ (by rfl) (alloc_own T6.out.x _) ⟨w6.heap.size, 0, none⟩ 1 1 [.int .i64 z] (by rfl) (by rfl) (news1 _ _ (by rfl)) (by simp [Value.oneCell']) (by omega) (by omega) (Nat.zero_le _) ?_
                       intro v7 w7 h7 g7 b7
                       have t7 := T6.out.pushX (by have := HB0.out; have := K6.out.size; omega) _ h7 g7 b7
                       have T7 := Lib.hid t7.1
                       have K7 := Lib.hid (K6.out.trans (T := fun k => B0 ≤ k) t7.2 (fun k hk (h : B0 ≤ k) => by have := HB0.out; show False; omega))
                       clear h7 g7 b7 t7)
          go_roundw
          case rel =>
            refine ⟨k + 1, m + 1, by omega, ?_, by rw [hdn2], by go_num, ?_, K7.out⟩
            · rw [refM_high hkr hkL (by rw [HPp.out]; exact hne), List.length_append, ← HM.out]; rfl
            · rw [refM_high hkr hkL (by rw [HPp.out]; exact hne), HPp.out, tv_append, xv_append, tv_one1, xv_one1]; exact T7.out
          case measure => simp [intOf]; omega
      · obtain rfl : k = N := by omega
        have hd : decide ((k : Int) < (k : Int)) = false := decide_eq_false (by omega)
        subst hm
        have KR := Lib.hid kr
        have TT := Lib.hid ht
        clear kr ht
        have d1 := (KR.out.cell hlt (fun h => h)).trans C1.out
        go_wp2_with fail
        go_meet
        exact ⟨rfl, TT.out, KR.out⟩
  case rest =>
    obtain ⟨d, hdd⟩ : ∃ d : Bool, d = decide (r < N) := ⟨_, rfl⟩
    obtain ⟨rfl, ht, hk⟩ := hcut
    rw [← hdd]
    have HDd := Lib.hid hdd
    obtain ⟨m, hm⟩ : ∃ m : Nat, m = (refM L a x r N).length := ⟨_, rfl⟩
    have hml : m ≤ N + 1 := by rw [hm]; exact refM_length (by rw [HN.out]; exact Nat.le_refl _)
    rw [← hm] at ht
    have hF := HFe.out
    have hFn : N ≤ r → F = refM L a x r N ++ [(a, x)] := fun h => by
      rw [hF]
      unfold refF refM
      rw [if_pos (by rw [← HN.out]; exact h), if_pos h, HN.out, List.take_length]
    have hFy : ¬ N ≤ r → F = refM L a x r N := fun h => by
      rw [hF]
      unfold refF
      rw [if_neg (by rw [← HN.out]; exact h), HN.out]
    have hFl : F.length ≤ N + 2 := by
      by_cases h : N ≤ r
      · rw [hFn h, List.length_append, ← hm]; show m + 1 ≤ N + 2; omega
      · rw [hFy h, ← hm]; omega
    have HM := Lib.hid hm
    have HFn := Lib.hid hFn
    have HFy := Lib.hid hFy
    have TT := Lib.hid ht
    have KR := Lib.hid hk
    obtain ⟨n, hn2⟩ : ∃ n : Nat, n = F.length := ⟨_, rfl⟩
    rw [← hn2] at hFl
    have HN2 := Lib.hid hn2
    clear hm hFn hFy ht hk hn2 hF hdd
    go_upto_if 74 with fail
    go_cut [6, 7] (fun s6 s7 wx => Two2 B0 wx s6 n (tv F) s7 n (xv F) ∧ Keeps (fun _ => False) w wx)
    case first =>
      by_cases hrn : N ≤ r
      · have hdn : d = false := HDd.out.trans (decide_eq_false (by omega))
        subst hdn
        go_upto_region 15 with (at_builtin; refine wpList_append_atk rfl (.tmp 75) (.tmp 77) 35 rfl 0 3 i0 _ 1 8 Try.underlying35 hi hz0 hz1 hz2 (by rfl) (by omega) _ m _ (by rfl) (alloc_own TT.out.a _) ⟨wc.heap.size, 0, none⟩ 1 1 [.int .i64 a] (by rfl) (by rfl) (news1 _ _ (by rfl)) (by simp [Value.oneCell']) (by omega) (by omega) (Nat.zero_le _) ?_
                                intro v6 w6 h6 g6 b6
                                have t6 := TT.out.pushA (by have := HB0.out; have := KR.out.size; omega) _ h6 g6 b6
                                have T6 := Lib.hid t6.1
                                have K6 := Lib.hid (KR.out.trans (T := fun k => B0 ≤ k) t6.2 (fun k hk (h : B0 ≤ k) => by have := HB0.out; show False; omega))
                                clear h6 g6 b6 t6)
        go_wp2_with (at_builtin; refine wpList_append_atk rfl (.tmp 79) (.tmp 81) 35 rfl 0 3 i0 _ 1 8 Try.underlying35 hi hz0 hz1 hz2 (by rfl) (by omega) _ m _ (by rfl) (alloc_own T6.out.x _) ⟨w6.heap.size, 0, none⟩ 1 1 [.int .i64 x] (by rfl) (by rfl) (news1 _ _ (by rfl)) (by simp [Value.oneCell']) (by omega) (by omega) (Nat.zero_le _) ?_
                     intro v7 w7 h7 g7 b7
                     have t7 := T6.out.pushX (by have := HB0.out; have := K6.out.size; omega) _ h7 g7 b7
                     have T7 := Lib.hid t7.1
                     have K7 := Lib.hid (K6.out.trans (T := fun k => B0 ≤ k) t7.2 (fun k hk (h : B0 ≤ k) => by have := HB0.out; show False; omega))
                     clear h7 g7 b7 t7)
        go_meet
        have hnm : n = m + 1 := by rw [HN2.out, HFn.out hrn, List.length_append, ← HM.out]; rfl
        exact ⟨by rw [HFn.out hrn, tv_append, xv_append, tv_one1, xv_one1, hnm]; exact T7.out, K7.out⟩
      · have hdn : d = true := HDd.out.trans (decide_eq_true (by omega))
        subst hdn
        go_wp2_with fail
        go_meet
        have hnm : n = m := by rw [HN2.out, HFy.out hrn, ← HM.out]
        exact ⟨by rw [HFy.out hrn, hnm]; exact TT.out, KR.out⟩
    case rest =>
      obtain ⟨ht, hk⟩ := hcut
      obtain ⟨A6, c6, rfl⟩ := own_formk ht.a
      obtain ⟨A7, c7, rfl⟩ := own_formk ht.x
      have hD := (HH.out.keep hk (fun _ _ _ h => h)).wider (T := fun k => S k ∨ B0 ≤ k) (fun _ h => .inl h)
      have hypB : yp < B0 := by rw [HB0.out]; exact hlt
      have hDA := hD.setA ht.a (fun g hg => by have := ht.ba g hg; exact ⟨.inr this, by omega⟩)
      have hDX := hDA.setX (v := .slice A7 n c7) (ownsRow_keep ht.x fun k hk2 => Below.heap_setCell wc _ _ k (by have := ht.bx k hk2; show k ≠ yp; omega)) (fun g hg => by have := ht.bx g hg; exact ⟨.inr this, by omega⟩)
      have k7 : Keeps (fun k => S k ∨ B0 ≤ k) w ((wc.setCell ⟨yp, 1, none⟩ (.slice A6 n c6)).setCell ⟨yp, 2, none⟩ (.slice A7 n c7)) := ((hk.mono (T := fun k => S k ∨ B0 ≤ k) (fun _ _ h => h.elim)).setCell (fun _ => hD.sp) _).setCell (fun _ => hD.sp) _
      have d0 := hD.c0
      have d1 := hD.c1
      have d2 := hD.c2
      have df1 := hD.fz 1
      have df2 := hD.fz 2
      have d2' := hDA.c2
      have df2' := hDA.fz 2
      have D7 := Lib.hid hDX
      have K7 := Lib.hid k7
      clear ht hk hD hDA hDX k7
      go_upto_region 18 with fail
      obtain ⟨w7, hw7⟩ : ∃ w7 : World, w7 = (wc.setCell ⟨yp, 1, none⟩ (.slice A6 n c6)).setCell ⟨yp, 2, none⟩ (.slice A7 n c7) := ⟨_, rfl⟩
      rw [← hw7] at D7 K7
      try rw [← hw7]
      clear hw7 d0 d1 d2 df1 df2 d2' df2'
      have e0 := D7.out.c0
      by_cases hm : (n : Int) ≤ mx
      · have hd : decide ((n : Int) ≤ mx) = true := decide_eq_true hm
        have hfin : DocDone S yp mx (cutK mx F) w (.returned (.tuple #[])) w7 := by
          have hc : cutK mx F = F := by unfold cutK; rw [if_neg (by rw [← HN2.out]; omega)]
          rw [hc]
          have h := D7.out
          rw [HN2.out] at h
          exact ⟨_, _, rfl, (DocR.narrow h).wider fun k hk => by
            rcases hk.1 with h1 | h1
            · exact .inl h1
            · exact .inr ⟨by rw [← HB0.out]; exact h1, hk.2⟩, K7.out.mono (fun k hk h => by rcases h with h | h; exact h; have := HB0.out; omega)⟩
        have HF := Lib.hid hfin
        clear hfin
        go_wp2
        exact bodyPost_ret (v := .tuple #[]) (by simp [results, Try.results15, go_sem]) rfl HF.out
      · have hd : decide ((n : Int) ≤ mx) = false := decide_eq_false hm
        have hn2 : 2 ≤ n := by omega
        obtain ⟨g6, rfl, _⟩ := time_at D7.out.ownA HN2.out (i := 0) (by omega)
        obtain ⟨g7, rfl, _⟩ := num_at D7.out.ownX HN2.out (i := 0) (by omega)
        have HT : Hid (∀ i, i < n → w7.cell? ⟨g6, i, none⟩ = some (.int .i64 (F.getD i (0, 0)).1)) := fun i hi2 => by
          obtain ⟨g, e, h⟩ := time_at D7.out.ownA HN2.out hi2
          cases e
          exact h
        go_wp2_with fail
        go_loopw [10, 11] (fun s10 s11 wr => ∃ k q : Nat, k + 2 ≤ n ∧ s10 = .int .i64 ((nearK F k : Nat) : Int) ∧ s11 = .int .i64 ((k : Int) + 2) ∧ wr = w7.drewN q) (fun _ s11 _ => n - (intOf s11).toNat)
        case atStart => exact ⟨0, 0, by omega, rfl, rfl, rfl⟩
        case round =>
          obtain ⟨k, q, hk, rfl, rfl, rfl⟩ := hrel
          obtain ⟨b, hb⟩ : ∃ b : Nat, b = nearK F k := ⟨_, rfl⟩
          have hbin := nearK_in F k
          rw [← hb] at hbin ⊢
          by_cases hkn : k + 2 < n
          · have hkn' : (k : Int) + 2 < (n : Int) := by omega
            obtain ⟨b', rfl⟩ : ∃ b', b = b' + 1 := ⟨b - 1, by omega⟩
            have t0 := HT.out (k + 2) hkn
            have t1 := HT.out (k + 1) (by omega)
            have t2 := HT.out (b' + 1) (by omega)
            have t3 := HT.out b' (by omega)
            have hG1 : gapK F (k + 2) = IntKind.u64.wrap (IntKind.i64.wrap ((F.getD (k + 2) (0, 0)).1 - (F.getD (k + 1) (0, 0)).1)) := (gap_same _ _).symm
            have hG2 : gapK F (b' + 1) = IntKind.u64.wrap (IntKind.i64.wrap ((F.getD (b' + 1) (0, 0)).1 - (F.getD b' (0, 0)).1)) := (gap_same _ _).symm
            obtain ⟨p0, hp0⟩ : ∃ y : Int, y = (F.getD (k + 2) (0, 0)).1 := ⟨_, rfl⟩
            obtain ⟨p1, hp1⟩ : ∃ y : Int, y = (F.getD (k + 1) (0, 0)).1 := ⟨_, rfl⟩
            obtain ⟨p2, hp2⟩ : ∃ y : Int, y = (F.getD (b' + 1) (0, 0)).1 := ⟨_, rfl⟩
            obtain ⟨p3, hp3⟩ : ∃ y : Int, y = (F.getD b' (0, 0)).1 := ⟨_, rfl⟩
            rw [← hp0, ← hp1] at hG1
            rw [← hp2, ← hp3] at hG2
            rw [← hp0] at t0
            rw [← hp1] at t1
            rw [← hp2] at t2
            rw [← hp3] at t3
            have hnext : nearK F (k + 1) = if gapK F (k + 2) < gapK F (b' + 1) then k + 2 else b' + 1 := by rw [hb]; rfl
            rw [hG1, hG2] at hnext
            have k0 : (0 : Int) ≤ (k : Int) := by omega
            have kn1 : (k : Int) + 1 < (n : Int) := by omega
            have k1 : (0 : Int) ≤ (k : Int) + 1 := by omega
            have k2 : (0 : Int) ≤ (k : Int) + 2 := by omega
            have tn1 : ((k : Int) + 1).toNat = k + 1 := by omega
            have tn2 : ((k : Int) + 2).toNat = k + 2 := by omega
            have b0 : (0 : Int) ≤ (b' : Int) := by omega
            have bn0 : (b' : Int) < (n : Int) := by omega
            have bn1 : (b' : Int) + 1 < (n : Int) := by omega
            have b1 : (0 : Int) ≤ (b' : Int) + 1 := by omega
            have tb1 : ((b' : Int) + 1).toNat = b' + 1 := by omega
            have s1 : IntKind.i64.wrap ((k : Int) + 1) = (k : Int) + 1 := IntWalk.i64_in _ (by omega)
            have s2 : IntKind.i64.wrap (b' : Int) = (b' : Int) := IntWalk.i64_in _ (by omega)
            obtain ⟨X, hX⟩ : ∃ X : Int, X = IntKind.u64.wrap (IntKind.i64.wrap (p0 - p1)) := ⟨_, rfl⟩
            obtain ⟨Y, hY⟩ : ∃ Y : Int, Y = IntKind.u64.wrap (IntKind.i64.wrap (p2 - p3)) := ⟨_, rfl⟩
            rw [← hX, ← hY] at hnext
            have hX' : IntKind.u64.wrap (wrap64 (p0 - p1)) = X := by rw [← IntWalk.i64_left]; exact hX.symm
            have hY' : IntKind.u64.wrap (wrap64 (p2 - p3)) = Y := by rw [← IntWalk.i64_left]; exact hY.symm
            clear hX hY
            have HX := Lib.hid hnext
            clear hG1 hG2 hp0 hp1 hp2 hp3 hnext hb
            rw [show (((b' + 1 : Nat)) : Int) = (b' : Int) + 1 by omega]
            by_cases hxy : X < Y
            · have hd : decide (X < Y) = true := decide_eq_true hxy
              go_wp2_with fail
              go_quiet (fail)
              go_wp2
              go_roundw
              case rel => exact ⟨k + 1, q + nq, by omega, by rw [HX.out, if_pos hxy]; go_num, by go_num, rfl⟩
              case measure => simp [intOf]; omega
            · have hd : decide (X < Y) = false := decide_eq_false hxy
              go_wp2_with fail
              go_quiet (fail)
              go_wp2
              go_roundw
              case rel => exact ⟨k + 1, q + nq, by omega, by rw [HX.out, if_neg (by omega)]; go_num, by go_num, rfl⟩
              case measure => simp [intOf]; omega
          · have hkn' : ¬ ((k : Int) + 2 < (n : Int)) := by omega
            have hd : decide ((k : Int) + 2 < (n : Int)) = false := decide_eq_false hkn'
            have hkN : n - 2 = k := by omega
            obtain ⟨w8, hw8⟩ : ∃ w8 : World, w8 = w7.drewN q := ⟨_, rfl⟩
            have hD8 := D7.out.keep (keeps_drewN (fun _ => False) (Keeps.refl _ _) q) (fun _ _ _ h => h)
            have hK8 := keeps_drewN _ K7.out q
            rw [← hw8] at hD8 hK8
            rw [← hw8]
            have D8 := Lib.hid hD8
            have K8 := Lib.hid hK8
            have hbF : b = nearK F (F.length - 2) := by rw [← HN2.out, hkN]; exact hb
            have hbn : b < n := by omega
            have HBF := Lib.hid hbF
            clear hD8 hK8 hw8 hb hkN hbF
            go_upto_region 25 with fail
            have OW : Hid (∀ W : World, ((W.alloc (.cells #[] 3)).drew).ownsRow 0 3 1 (.slice (some ⟨W.heap.size, 0, none⟩) 0 0) 0 []) := fun W => (World.ownsRow_lit (base := 0) (e := 3) (size := 1) W #[] 0 (Nat.zero_le _) (by unfold maxLen; omega) rfl).drew
            have RT : Hid (RdO ((w8.alloc (.cells #[] 3)).drew) (some ⟨g6, 0, none⟩) ((tv F).take b)) := rdo_keep (rdo_head D8.out.ownA (by omega)) ((Keeps.refl _ w8).alloc (.cells #[] 3)).drew
            have LT : Hid (((tv F).take b).length = b * 1) := by show _ = _; rw [List.length_take, tv_length, ← HN2.out]; omega
            have LD : Hid (((tv F).drop (b + 1)).length = (n - (b + 1)) * 1) := by show _ = _; rw [List.length_drop, tv_length, ← HN2.out]; omega
            have OT : Hid (∀ u ∈ (tv F).take b, u.oneCell' = true) := fun u hu => tv_one F u (List.mem_of_mem_take hu)
            have OD : Hid (∀ u ∈ (tv F).drop (b + 1), u.oneCell' = true) := fun u hu => tv_one F u (List.mem_of_mem_drop hu)
            have hdl : (delK F b).length = n - 1 := by rw [delK_length _ _ (by rw [← HN2.out]; exact hbn), ← HN2.out]
            have hdr : [] ++ (tv F).take b ++ (tv F).drop (b + 1) = tv (delK F b) := by unfold delK; rw [List.nil_append, tv_append, tv_take, tv_drop]
            have HDL := Lib.hid hdl
            have HDR := Lib.hid hdr
            have TL : Hid (∀ W, Keeps (fun _ => False) w8 W → ∀ ad : Nat, (ad = b + 1 ∨ n = b + 1) → RdO W (some ⟨g6, ad, none⟩) ((tv F).drop (b + 1))) := fun W hK ad had => by
              rcases Nat.eq_zero_or_pos (n - (b + 1)) with h0 | h0
              · intro h; rw [LD.out] at h; omega
              · obtain ⟨g, e, h⟩ := rdo_tail D8.out.ownA (r := b + 1) (by omega) h0
                cases e
                obtain rfl : ad = b + 1 := by omega
                exact rdo_keep h hK
            have HE : Hid (∀ (W5 : World) (v5 : Value), W5.ownsRow 0 3 1 v5 (0 + b) ([] ++ (tv F).take b) → ((w8.alloc (.cells #[] 3)).drew).grownBy W5 (Value.slice (some ⟨w8.heap.size, 0, none⟩) 0 0).ownBlock → (v5.ownBlock = (Value.slice (some ⟨w8.heap.size, 0, none⟩) 0 0).ownBlock ∨ v5.ownBlock = some ((w8.alloc (.cells #[] 3)).drew).heap.size) → Keeps (fun _ => False) w8 W5 ∧ ∀ g, v5.ownBlock = some g → w8.heap.size ≤ g) := fun W5 v5 ho hg hb => by
              refine ⟨(((Keeps.refl _ w8).alloc _).drew).grown hg fun k e hlt => by have : w8.heap.size = k := Option.some.inj e; omega, fun g hg2 => ?_⟩
              rcases hb with e | e
              · rw [e] at hg2
                exact Nat.le_of_eq (Option.some.inj hg2)
              · rw [e] at hg2
                have : (w8.alloc (.cells #[] 3)).heap.size = g := Option.some.inj hg2
                rw [World.size_alloc] at this
                omega
            have HG : Hid (∀ (W5 : World) (v5 : Value), Keeps (fun _ => False) w8 W5 → (∀ g, v5.ownBlock = some g → w8.heap.size ≤ g) → ∀ (m2 : Nat), m2 = n - (b + 1) → ∀ (W9 : World) (v9 : Value), W9.ownsRow 0 3 1 v9 (0 + b + m2) ([] ++ (tv F).take b ++ (tv F).drop (b + 1)) → W5.grownBy W9 v5.ownBlock → (v9.ownBlock = v5.ownBlock ∨ v9.ownBlock = some W5.heap.size) →
                DocR (W9.setCell ⟨yp, 1, none⟩ v9) (fun k => S k ∨ B0 ≤ k) yp mx v9 (.slice (some ⟨g7, 0, none⟩) n c7) (n - 1) (tv (delK F b)) n (xv F) ∧ Keeps (fun k => S k ∨ B0 ≤ k) w8 (W9.setCell ⟨yp, 1, none⟩ v9) ∧ W9.cell? ⟨yp, 1, none⟩ = some (.slice (some ⟨g6, 0, none⟩) n c6) ∧ W9.frozen? ⟨yp, 1, none⟩ = false) := fun W5 v5 hk5 hb5 m2 hm2 W9 v9 ho hg hb => by
              rw [HDR.out, show 0 + b + m2 = n - 1 by omega] at ho
              have hyB : yp < B0 := by have := HB0.out; omega
              have hBW : B0 ≤ w8.heap.size := by have := K8.out.size; have := HB0.out; omega
              have s5 := hk5.size
              exact D8.out.newA (B := B0) (fun k hk => .inr hk) hyB hBW (hk5.grown hg fun k e hlt => by have := hb5 k e; omega) ho (fun g hg2 => by
                rcases hb with e | e
                · exact hb5 g (e ▸ hg2)
                · rw [e] at hg2
                  have : W5.heap.size = g := Option.some.inj hg2
                  omega)
            have hb0 : (0 : Int) ≤ (b : Int) := by omega
            have hb1 : (0 : Int) ≤ (b : Int) + 1 := by omega
            have tb1 : ((b : Int) + 1).toNat = b + 1 := by omega
            have hbnI : (b : Int) + 1 ≤ (n : Int) := by omega
            have hcn : n ≤ c6 := by
              rcases D8.out.ownA.2 with ⟨e, h0⟩ | ⟨g, cap, cur, e1, _, _, hnc, _⟩
              · omega
              · simp only [Value.slice.injEq] at e1
                omega
            have hcnI : (n : Int) ≤ (c6 : Int) := by omega
            have hbcI : (b : Int) ≤ (c6 : Int) := by omega
            have sb1 : IntKind.i64.wrap ((b : Int) + 1) = (b : Int) + 1 := IntWalk.i64_in _ (by omega)
            have hbb : (b : Int) ≤ (b : Int) + 1 := by omega
            have hbc : b ≤ c6 := by omega
            clear hdl hdr
            go_cut [140] from 128 to 140 (fun s140 wx => ∃ v, DocR wx (fun k => S k ∨ B0 ≤ k) yp mx v (.slice (some ⟨g7, 0, none⟩) n c7) (n - 1) (tv (delK F b)) n (xv F) ∧ Keeps (fun k => S k ∨ B0 ≤ k) w8 wx)
            case first =>
              have d1 := D8.out.c1
              by_cases hc : c6 = b + 1
              · subst hc
                go_region_law (first | (refine step_append_optk (by rfl) (.tmp 129) (.tmp 132) 35 (by rfl) 0 3 i0 _ 1 8 Try.underlying35 hi hz0 hz1 hz2 (by rfl) (by omega) _ 0 [] (by rfl) (OW.out _) (some ⟨g6, 0, none⟩) b (b + 1) ((tv F).take b) (by rfl) LT.out RT.out OT.out (fun h => by cases h) (by omega) (by omega) (Nat.zero_le _) ?_
                                        intro v5 W5 o5 g5 b5
                                        obtain ⟨A5, c5, rfl⟩ := own_formk o5
                                        have he5 := HE.out _ _ o5 g5 b5
                                        have O5 := Lib.hid o5
                                        have E5 := Lib.hid he5
                                        have RT5 := Lib.hid (TL.out W5 he5.1 0 (by omega))
                                        clear o5 g5 b5 he5)
                                     | (refine step_append_optk (by rfl) (.tmp 133) (.tmp 137) 35 (by rfl) 0 3 i0 _ 1 8 Try.underlying35 hi hz0 hz1 hz2 (by rfl) (by omega) _ (0 + b) _ (by first | rfl | simp [Act.eval, Act.put]) O5.out (some ⟨g6, 0, none⟩) 0 0 ((tv F).drop (b + 1)) (by first | rfl | simp [Act.eval, Act.put]) (by rw [LD.out]; omega) RT5.out OD.out (fun h => by cases h) (by omega) (by omega) (Nat.zero_le _) ?_
                                        intro v9 W9 o9 g9 b9
                                        obtain ⟨A9, c9, rfl⟩ := own_formk o9
                                        have hq := HG.out _ _ E5.out.1 E5.out.2 _ (by omega) _ _ o9 g9 b9
                                        have HF := Lib.hid (And.intro hq.1 hq.2.1)
                                        have q1 := hq.2.2.1
                                        have qf := hq.2.2.2
                                        clear o9 g9 b9 hq))
                all_goals
                  go_wp2_with fail
                  go_meet
                  exact ⟨_, by have h := HF.out; simp only [Nat.zero_add, Nat.add_zero] at h; exact h⟩
              · 
                go_region_law (first | (refine step_append_optk (by rfl) (.tmp 129) (.tmp 132) 35 (by rfl) 0 3 i0 _ 1 8 Try.underlying35 hi hz0 hz1 hz2 (by rfl) (by omega) _ 0 [] (by rfl) (OW.out _) (some ⟨g6, 0, none⟩) b c6 ((tv F).take b) (by rfl) LT.out RT.out OT.out (fun h => by cases h) (by omega) (by omega) (Nat.zero_le _) ?_
                                        intro v5 W5 o5 g5 b5
                                        obtain ⟨A5, c5, rfl⟩ := own_formk o5
                                        have he5 := HE.out _ _ o5 g5 b5
                                        have O5 := Lib.hid o5
                                        have E5 := Lib.hid he5
                                        have RT5 := Lib.hid (TL.out W5 he5.1 (b + 1) (by omega))
                                        clear o5 g5 b5 he5)
                                     | (refine step_append_optk (by rfl) (.tmp 133) (.tmp 137) 35 (by rfl) 0 3 i0 _ 1 8 Try.underlying35 hi hz0 hz1 hz2 (by rfl) (by omega) _ (0 + b) _ (by first | rfl | simp [Act.eval, Act.put]) O5.out (some ⟨g6, (b + 1), none⟩) (n - (b + 1)) (c6 - (b + 1)) ((tv F).drop (b + 1)) (by first | rfl | simp [Act.eval, Act.put]) LD.out RT5.out OD.out (fun h => by cases h) (by omega) (by omega) (Nat.zero_le _) ?_
                                        intro v9 W9 o9 g9 b9
                                        obtain ⟨A9, c9, rfl⟩ := own_formk o9
                                        have hq := HG.out _ _ E5.out.1 E5.out.2 _ (by omega) _ _ o9 g9 b9
                                        have HF := Lib.hid (And.intro hq.1 hq.2.1)
                                        have q1 := hq.2.2.1
                                        have qf := hq.2.2.2
                                        clear o9 g9 b9 hq))
                all_goals
                  go_wp2_with fail
                  go_meet
                  exact ⟨_, by have h := HF.out; simp only [Nat.zero_add, Nat.add_zero] at h; exact h⟩
            case rest =>
              obtain ⟨v9, hD9, hk9⟩ := hcut
              have hK9 := K8.out.trans hk9 (fun _ _ h => h)
              obtain ⟨A9, c9, rfl⟩ := own_formk hD9.ownA
              have hcut : cutK mx F = delK F b := by unfold cutK; rw [if_pos (by rw [← HN2.out]; omega), ← HBF.out]
              have HCut := Lib.hid hcut
              have d2 := hD9.c2
              have D9 := Lib.hid hD9
              have K9 := Lib.hid hK9
              clear hD9 hk9 hK9 hcut OW RT LT LD OT OD HDR TL HE HG hb0 hb1 tb1 hbnI hcn hcnI hbcI sb1 hbb hbc
              have OW : Hid (∀ W : World, ((W.alloc (.cells #[] 3)).drew).ownsRow 0 3 1 (.slice (some ⟨W.heap.size, 0, none⟩) 0 0) 0 []) := fun W => (World.ownsRow_lit (base := 0) (e := 3) (size := 1) W #[] 0 (Nat.zero_le _) (by unfold maxLen; omega) rfl).drew
              have RT : Hid (RdO ((wc.alloc (.cells #[] 3)).drew) (some ⟨g7, 0, none⟩) ((xv F).take b)) := rdo_keep (rdo_head D9.out.ownX (by omega)) ((Keeps.refl _ wc).alloc (.cells #[] 3)).drew
              have LT : Hid (((xv F).take b).length = b * 1) := by show _ = _; rw [List.length_take, xv_length, ← HN2.out]; omega
              have LD : Hid (((xv F).drop (b + 1)).length = (n - (b + 1)) * 1) := by show _ = _; rw [List.length_drop, xv_length, ← HN2.out]; omega
              have OT : Hid (∀ u ∈ (xv F).take b, u.oneCell' = true) := fun u hu => xv_one F u (List.mem_of_mem_take hu)
              have OD : Hid (∀ u ∈ (xv F).drop (b + 1), u.oneCell' = true) := fun u hu => xv_one F u (List.mem_of_mem_drop hu)
              have hdl : (delK F b).length = n - 1 := by rw [delK_length _ _ (by rw [← HN2.out]; exact hbn), ← HN2.out]
              have hdr : [] ++ (xv F).take b ++ (xv F).drop (b + 1) = xv (delK F b) := by unfold delK; rw [List.nil_append, xv_append, xv_take, xv_drop]
              have HDL := Lib.hid hdl
              have HDR := Lib.hid hdr
              have TL : Hid (∀ W, Keeps (fun _ => False) wc W → ∀ ad : Nat, (ad = b + 1 ∨ n = b + 1) → RdO W (some ⟨g7, ad, none⟩) ((xv F).drop (b + 1))) := fun W hK ad had => by
                rcases Nat.eq_zero_or_pos (n - (b + 1)) with h0 | h0
                · intro h; rw [LD.out] at h; omega
                · obtain ⟨g, e, h⟩ := rdo_tail D9.out.ownX (r := b + 1) (by omega) h0
                  cases e
                  obtain rfl : ad = b + 1 := by omega
                  exact rdo_keep h hK
              have HE : Hid (∀ (W5 : World) (v5 : Value), W5.ownsRow 0 3 1 v5 (0 + b) ([] ++ (xv F).take b) → ((wc.alloc (.cells #[] 3)).drew).grownBy W5 (Value.slice (some ⟨wc.heap.size, 0, none⟩) 0 0).ownBlock → (v5.ownBlock = (Value.slice (some ⟨wc.heap.size, 0, none⟩) 0 0).ownBlock ∨ v5.ownBlock = some ((wc.alloc (.cells #[] 3)).drew).heap.size) → Keeps (fun _ => False) wc W5 ∧ ∀ g, v5.ownBlock = some g → wc.heap.size ≤ g) := fun W5 v5 ho hg hb => by
                refine ⟨(((Keeps.refl _ wc).alloc _).drew).grown hg fun k e hlt => by have : wc.heap.size = k := Option.some.inj e; omega, fun g hg2 => ?_⟩
                rcases hb with e | e
                · rw [e] at hg2
                  exact Nat.le_of_eq (Option.some.inj hg2)
                · rw [e] at hg2
                  have : (wc.alloc (.cells #[] 3)).heap.size = g := Option.some.inj hg2
                  rw [World.size_alloc] at this
                  omega
              have HG : Hid (∀ (W5 : World) (v5 : Value), Keeps (fun _ => False) wc W5 → (∀ g, v5.ownBlock = some g → wc.heap.size ≤ g) → ∀ (m2 : Nat), m2 = n - (b + 1) → ∀ (W9 : World) (v9 : Value), W9.ownsRow 0 3 1 v9 (0 + b + m2) ([] ++ (xv F).take b ++ (xv F).drop (b + 1)) → W5.grownBy W9 v5.ownBlock → (v9.ownBlock = v5.ownBlock ∨ v9.ownBlock = some W5.heap.size) →
                  DocDone S yp mx (cutK mx F) w (.returned (.tuple #[])) (W9.setCell ⟨yp, 2, none⟩ v9) ∧ W9.cell? ⟨yp, 2, none⟩ = some (.slice (some ⟨g7, 0, none⟩) n c7) ∧ W9.frozen? ⟨yp, 2, none⟩ = false) := fun W5 v5 hk5 hb5 m2 hm2 W9 v9 ho hg hb => by
                rw [HDR.out, show 0 + b + m2 = n - 1 by omega] at ho
                have hyB : yp < B0 := by have := HB0.out; omega
                have hBW : B0 ≤ wc.heap.size := by have := K9.out.size; have := HB0.out; omega
                have s5 := hk5.size
                have hq := D9.out.newX (B := B0) (fun k hk => .inr hk) hyB hBW (hk5.grown hg fun k e hlt => by have := hb5 k e; omega) ho (fun g hg2 => by
                  rcases hb with e | e
                  · exact hb5 g (e ▸ hg2)
                  · rw [e] at hg2
                    have : W5.heap.size = g := Option.some.inj hg2
                    omega)
                have hd := hq.1
                rw [← HDL.out] at hd
                rw [HCut.out]
                exact ⟨⟨_, _, rfl, (DocR.narrow hd).wider fun k hk => (by
                  rcases hk.1 with h1 | h1
                  · exact .inl h1
                  · exact .inr ⟨by rw [← HB0.out]; exact h1, hk.2⟩), (K9.out.trans hq.2.1 (fun _ _ h => h)).mono (fun k hk h => by rcases h with h | h; exact h; have := HB0.out; omega)⟩, hq.2.2⟩
              have hb0 : (0 : Int) ≤ (b : Int) := by omega
              have hb1 : (0 : Int) ≤ (b : Int) + 1 := by omega
              have tb1 : ((b : Int) + 1).toNat = b + 1 := by omega
              have hbnI : (b : Int) + 1 ≤ (n : Int) := by omega
              have hcn : n ≤ c7 := by
                rcases D9.out.ownX.2 with ⟨e, h0⟩ | ⟨g, cap, cur, e1, _, _, hnc, _⟩
                · omega
                · simp only [Value.slice.injEq] at e1
                  omega
              have hcnI : (n : Int) ≤ (c7 : Int) := by omega
              have hbcI : (b : Int) ≤ (c7 : Int) := by omega
              have sb1 : IntKind.i64.wrap ((b : Int) + 1) = (b : Int) + 1 := IntWalk.i64_in _ (by omega)
              have hbb : (b : Int) ≤ (b : Int) + 1 := by omega
              have hbc : b ≤ c7 := by omega
              clear hdl hdr
              go_upto_region 26 with fail
              by_cases hc : c7 = b + 1
              · subst hc
                go_region_law (first | (refine step_append_optk (by rfl) (.tmp 142) (.tmp 145) 35 (by rfl) 0 3 i0 _ 1 8 Try.underlying35 hi hz0 hz1 hz2 (by rfl) (by omega) _ 0 [] (by rfl) (OW.out _) (some ⟨g7, 0, none⟩) b (b + 1) ((xv F).take b) (by rfl) LT.out RT.out OT.out (fun h => by cases h) (by omega) (by omega) (Nat.zero_le _) ?_
                                        intro v5 W5 o5 g5 b5
                                        obtain ⟨A5, c5, rfl⟩ := own_formk o5
                                        have he5 := HE.out _ _ o5 g5 b5
                                        have O5 := Lib.hid o5
                                        have E5 := Lib.hid he5
                                        have RT5 := Lib.hid (TL.out W5 he5.1 0 (by omega))
                                        clear o5 g5 b5 he5)
                                     | (refine step_append_optk (by rfl) (.tmp 146) (.tmp 150) 35 (by rfl) 0 3 i0 _ 1 8 Try.underlying35 hi hz0 hz1 hz2 (by rfl) (by omega) _ (0 + b) _ (by first | rfl | simp [Act.eval, Act.put]) O5.out (some ⟨g7, 0, none⟩) 0 0 ((xv F).drop (b + 1)) (by first | rfl | simp [Act.eval, Act.put]) (by rw [LD.out]; omega) RT5.out OD.out (fun h => by cases h) (by omega) (by omega) (Nat.zero_le _) ?_
                                        intro v9 W9 o9 g9 b9
                                        obtain ⟨A9, c9, rfl⟩ := own_formk o9
                                        have hq := HG.out _ _ E5.out.1 E5.out.2 _ (by omega) _ _ o9 g9 b9
                                        have HF := Lib.hid hq.1
                                        have q1 := hq.2.1
                                        have qf := hq.2.2
                                        clear o9 g9 b9 hq))
                all_goals
                  go_wp2
                  exact bodyPost_ret (v := .tuple #[]) (by simp [results, Try.results15, go_sem]) rfl (by have h := HF.out; simp only [Nat.zero_add, Nat.add_zero] at h; exact h)
              · 
                go_region_law (first | (refine step_append_optk (by rfl) (.tmp 142) (.tmp 145) 35 (by rfl) 0 3 i0 _ 1 8 Try.underlying35 hi hz0 hz1 hz2 (by rfl) (by omega) _ 0 [] (by rfl) (OW.out _) (some ⟨g7, 0, none⟩) b c7 ((xv F).take b) (by rfl) LT.out RT.out OT.out (fun h => by cases h) (by omega) (by omega) (Nat.zero_le _) ?_
                                        intro v5 W5 o5 g5 b5
                                        obtain ⟨A5, c5, rfl⟩ := own_formk o5
                                        have he5 := HE.out _ _ o5 g5 b5
                                        have O5 := Lib.hid o5
                                        have E5 := Lib.hid he5
                                        have RT5 := Lib.hid (TL.out W5 he5.1 (b + 1) (by omega))
                                        clear o5 g5 b5 he5)
                                     | (refine step_append_optk (by rfl) (.tmp 146) (.tmp 150) 35 (by rfl) 0 3 i0 _ 1 8 Try.underlying35 hi hz0 hz1 hz2 (by rfl) (by omega) _ (0 + b) _ (by first | rfl | simp [Act.eval, Act.put]) O5.out (some ⟨g7, (b + 1), none⟩) (n - (b + 1)) (c7 - (b + 1)) ((xv F).drop (b + 1)) (by first | rfl | simp [Act.eval, Act.put]) LD.out RT5.out OD.out (fun h => by cases h) (by omega) (by omega) (Nat.zero_le _) ?_
                                        intro v9 W9 o9 g9 b9
                                        obtain ⟨A9, c9, rfl⟩ := own_formk o9
                                        have hq := HG.out _ _ E5.out.1 E5.out.2 _ (by omega) _ _ o9 g9 b9
                                        have HF := Lib.hid hq.1
                                        have q1 := hq.2.1
                                        have qf := hq.2.2
                                        clear o9 g9 b9 hq))
                all_goals
                  go_wp2
                  exact bodyPost_ret (v := .tuple #[]) (by simp [results, Try.results15, go_sem]) rfl (by have h := HF.out; simp only [Nat.zero_add, Nat.add_zero] at h; exact h)

end Go.Proofs.Ytpighdioomjnmab
