/-
  Layer 14: the Keep of strings: behind, New, Best. Written by an AI agent (out of the Keep of numbers' texts, by wip/gen/kps.py).
-/
import Derived.Test.YtpighdioomjnmabKpO
import Derived.Test.YtpighdioomjnmabKpF
namespace Go.Proofs.Ytpighdioomjnmab.Str
open Go.RowKit Go.Shelf Go.Proofs.Ytpighdioomjnmab
set_option linter.unusedVariables false
set_option linter.unusedSimpArgs false

set_option maxRecDepth 100000 in
set_option maxHeartbeats 1000000 in
theorem behind_asks (W : World) (P X kp g n c i : Nat) (x y : Int) (hp : W.cell? ⟨P, 0, none⟩ = some (.pointer (some ⟨kp, 0, none⟩))) (hl : W.cell? ⟨kp, 1, none⟩ = some (.slice (some ⟨g, 0, none⟩) n c)) (hc : W.cell? ⟨g, i * 2, none⟩ = some (.int .i64 y)) (hx : W.cell? ⟨X, 0, none⟩ = some (.int .i64 x)) (hi : i < n) :
    Calls Try.prog 60 (#[.int .i64 (i : Int)] ++ #[.pointer (some ⟨P, 0, none⟩), .pointer (some ⟨X, 0, none⟩)]) W fun e w' => e = .returned (.bool (decide (x < y))) ∧ ∃ q, w' = W.drewN q := by
  have hiz : (i : Int) < (n : Int) := by omega
  have hi0 : (0 : Int) ≤ (i : Int) := by omega
  go_enter Try.func60, Try.ntmps60
  go_wp2
  go_region
  all_goals go_wp2
  all_goals go_ret
  all_goals exact ⟨by first | rfl | simp, 1, rfl⟩

/-- Times and numbers as cells. -/
def flatK (L : List (Int × ByteArray)) : List Value := L.flatMap fun x => [.int .i64 x.1, .string x.2]
theorem flatK_cons (a : Int × ByteArray) (L : List (Int × ByteArray)) : flatK (a :: L) = .int .i64 a.1 :: .string a.2 :: flatK L := by simp [flatK]
theorem flatK_length (L : List (Int × ByteArray)) : (flatK L).length = L.length * 2 := by
  induction L with
  | nil => rfl
  | cons a L ih => rw [flatK_cons, List.length_cons, List.length_cons, ih, List.length_cons]; omega
theorem flatK_one (L : List (Int × ByteArray)) : ∀ u ∈ flatK L, u.oneCell' = true := by
  intro u hu
  simp only [flatK, List.mem_flatMap] at hu
  obtain ⟨a, _, hu⟩ := hu
  rcases List.mem_cons.1 hu with rfl | hu
  · rfl
  · rcases List.mem_cons.1 hu with rfl | hu
    · rfl
    · cases hu
theorem flatK_at (L : List (Int × ByteArray)) (i : Nat) (h : i < L.length) : (flatK L)[i * 2]? = some (.int .i64 (L.getD i (0, ⟨#[]⟩)).1) ∧ (flatK L)[i * 2 + 1]? = some (.string (L.getD i (0, ⟨#[]⟩)).2) := by
  induction L generalizing i with
  | nil => exact absurd h (Nat.not_lt_zero _)
  | cons a L ih =>
    rw [flatK_cons]
    cases i with
    | zero => exact ⟨rfl, rfl⟩
    | succ i =>
      have h2 := ih i (by simpa using h)
      rw [show (i + 1) * 2 = i * 2 + 1 + 1 by omega]
      exact h2

/-- A Keep of numbers. -/
structure KeepIs (w : World) (S : Nat → Prop) (kp : Nat) (most : Int) (v : Value) (L : List (Int × ByteArray)) : Prop where
  c0 : w.cell? ⟨kp, 0, none⟩ = some (.int .i64 most)
  c1 : w.cell? ⟨kp, 1, none⟩ = some v
  fz : ∀ k, w.frozen? ⟨kp, k, none⟩ = false
  lt : kp < w.heap.size
  sp : S kp
  own : w.ownsRow 0 86 2 v L.length (flatK L)
  vb : ∀ g, v.ownBlock = some g → S g ∧ g ≠ kp
  up : ∀ i j, i < j → j < L.length → (L.getD i (0, ⟨#[]⟩)).1 < (L.getD j (0, ⟨#[]⟩)).1

theorem KeepIs.keep {w w' : World} {S T : Nat → Prop} {kp : Nat} {most : Int} {v : Value} {L : List (Int × ByteArray)} (h : KeepIs w S kp most v L) (hk : Keeps T w w') (hT : ∀ k, k < w.heap.size → S k → ¬ T k) : KeepIs w' S kp most v L where
  c0 := (hk.cell h.lt (hT kp h.lt h.sp)).trans h.c0
  c1 := (hk.cell h.lt (hT kp h.lt h.sp)).trans h.c1
  fz := fun k => (hk.frozen h.lt (hT kp h.lt h.sp)).trans (h.fz k)
  lt := Nat.lt_of_lt_of_le h.lt hk.size
  sp := h.sp
  own := ownsRow_keep h.own fun k hv => hk.block k (own_ltk h.own hv) (hT k (own_ltk h.own hv) (h.vb k hv).1)
  vb := h.vb
  up := h.up

/-- What behind tells. -/
def Behind (L : List (Int × ByteArray)) (x : Int) (w : World) (e : Ending) (w' : World) : Prop :=
  ∃ r : Nat, e = .returned (.int .i64 (r : Int)) ∧ Keeps (fun _ => False) w w' ∧ r ≤ L.length ∧ (∀ t, t < r → (L.getD t (0, ⟨#[]⟩)).1 ≤ x) ∧ (∀ t, r ≤ t → t < L.length → x < (L.getD t (0, ⟨#[]⟩)).1)

set_option maxRecDepth 100000 in
set_option maxHeartbeats 2000000 in
theorem behind_any (w : World) (S : Nat → Prop) (kp : Nat) (most : Int) (v : Value) (L : List (Int × ByteArray)) (H : KeepIs w S kp most v L) (hn : L.length ≤ 1000) (x : Int) :
    Calls Try.prog 49 #[.pointer (some ⟨kp, 0, none⟩), .int .i64 x] w (Behind L x w) := by
  obtain ⟨W0, hW0⟩ : ∃ W0, W0 = (w.alloc (.cells #[.pointer (some ⟨kp, 0, none⟩)] 62)).alloc (.cells #[.int .i64 x] 3) := ⟨_, rfl⟩
  have hsize : W0.heap.size = w.heap.size + 1 + 1 := by rw [hW0]; simp
  have k0 : Keeps (fun _ => False) w W0 := by rw [hW0]; exact ((Keeps.refl _ w).alloc _).alloc _
  have H0 := H.keep k0 (fun _ _ _ h => h)
  have cp : W0.cell? ⟨w.heap.size, 0, none⟩ = some (.pointer (some ⟨kp, 0, none⟩)) := by rw [hW0]; exact Go.Proofs.cell_alloc_sl _ (Go.Proofs.cell_new_sl w _ _)
  have cx : W0.cell? ⟨w.heap.size + 1, 0, none⟩ = some (.int .i64 x) := by
    rw [hW0]
    have := Go.Proofs.cell_new_sl (w.alloc (.cells #[.pointer (some ⟨kp, 0, none⟩)] 62)) (.int .i64 x) 3
    rwa [World.size_alloc] at this
  have eg : ∀ args w, (callFunc 60 args).run Try.prog w = .ok (.enter 60 args) w := enters_of Try.func60 (by kernel_rfl) rfl
  have hS := search_any W0 60 #[.pointer (some ⟨w.heap.size, 0, none⟩), .pointer (some ⟨w.heap.size + 1, 0, none⟩)] L.length (fun i => decide (x < (L.getD i (0, ⟨#[]⟩)).1)) eg hn
    (fun m os i hi => by
      have hk := keeps_grow W0 m os
      have H1 := H0.keep hk (fun _ _ _ h => h)
      rcases H1.own.2 with ⟨_, h0⟩ | ⟨g, cap, cur, hv, _⟩
      · omega
      · have c1 := H1.c1
        have ho := H1.own
        rw [hv] at c1 ho
        have hc := ho.cellAt (i * 2) (by omega)
        rw [(flatK_at L i hi).1] at hc
        refine (behind_asks _ w.heap.size (w.heap.size + 1) kp g L.length cap i x _ ((hk.cell (by omega) (fun h => h)).trans cp) c1 hc ((hk.cell (by omega) (fun h => h)).trans cx) hi).mono ?_
        rintro e w' ⟨he, q, hq⟩
        exact ⟨he, q, #[], by rw [hq]; exact (Go.Sort.grow_empty _).symm⟩)
    (fun a b hab hb h => by
      rcases Nat.lt_or_ge a b with h1 | h1
      · have := H.up a b h1 hb
        simp only [decide_eq_true_eq] at h ⊢
        omega
      · obtain rfl : a = b := by omega
        exact h)
  have hSh := Lib.hid hS
  have K0 := Lib.hid k0
  have c1 := H0.c1
  obtain ⟨A, c, hv⟩ : ∃ A c, v = .slice A L.length c := by
    rcases H.own.2 with ⟨e1, h0⟩ | ⟨g, cap, cur, e1, _⟩
    · exact ⟨none, 0, by rw [e1, h0]⟩
    · exact ⟨_, cap, e1⟩
  subst hv
  obtain ⟨N, hN⟩ : ∃ N : Nat, N = L.length := ⟨_, rfl⟩
  rw [← hN] at c1 hSh hn
  have HN := Lib.hid hN
  clear hS k0 H0 H hN eg
  go_enter Try.func49, Try.ntmps49
  have c1' := c1
  rw [hW0] at c1'
  go_wp2_with (go_at_call 53; rw [← hW0]; refine hSh.out.mono ?_; rintro e w' ⟨r, q, os, rfl, rfl, h1, h2, h3⟩)
  go_ret
  refine ⟨r, rfl, (by have h := K0.out.trans (keeps_grow W0 q os) (fun _ _ h => h); rw [hW0] at h; exact h), by rw [← HN.out]; exact h1, fun t ht => ?_, fun t ht ht2 => ?_⟩
  · have := h2 t ht
    simp only [decide_eq_false_iff_not] at this
    omega
  · have := h3 t ht (by rw [HN.out]; exact ht2)
    simpa using this

theorem knew_any (w : World) (most : Int) :
    Calls Try.prog 33 #[.int .i64 most] w fun e w' => e = .returned (.pointer (some ⟨w.heap.size, 0, none⟩)) ∧ w' = w.alloc (.cells #[.int .i64 most, .slice none 0 0] 84) := by
  go_enter Try.func33, Try.ntmps33
  go_wp2
  go_ret
  exact ⟨rfl, rfl⟩

theorem keepIs_new (w : World) (most : Int) : KeepIs (w.alloc (.cells #[.int .i64 most, .slice none 0 0] 84)) (fun k => k = w.heap.size) w.heap.size most (.slice none 0 0) [] where
  c0 := by simp
  c1 := by simp
  fz := fun k => World.frozen?_alloc_new _ _ _ _
  lt := by simp
  sp := rfl
  own := World.ownsRow_nil _ _ _ _
  vb := by simp [Value.ownBlock]
  up := fun i j _ h => absurd h (Nat.not_lt_zero _)

/-- What Best tells. -/
def GotBest (L : List (Int × ByteArray)) (x : Int) (w : World) (e : Ending) (w' : World) : Prop :=
  Keeps (fun _ => False) w w' ∧ ((e = .returned (.tuple #[.int .i64 0, .string ⟨#[]⟩, .bool false]) ∧ ∀ t, t < L.length → x < (L.getD t (0, ⟨#[]⟩)).1) ∨
    (∃ s, s < L.length ∧ e = .returned (.tuple #[.int .i64 (L.getD s (0, ⟨#[]⟩)).1, .string (L.getD s (0, ⟨#[]⟩)).2, .bool true]) ∧ (L.getD s (0, ⟨#[]⟩)).1 ≤ x ∧ ∀ t, s < t → t < L.length → x < (L.getD t (0, ⟨#[]⟩)).1))

set_option maxRecDepth 100000 in
set_option maxHeartbeats 2000000 in
theorem best_any (w : World) (S : Nat → Prop) (kp : Nat) (most : Int) (v : Value) (L : List (Int × ByteArray)) (H : KeepIs w S kp most v L) (hn : L.length ≤ 1000) (x : Int) :
    Calls Try.prog 35 #[.pointer (some ⟨kp, 0, none⟩), .int .i64 x] w (GotBest L x w) := by
  have BC := Lib.hid (behind_any w S kp most v L H hn x)
  have HH := Lib.hid H
  clear H
  go_enter Try.func35, Try.ntmps35
  go_wp2_with fail
  refine BC.out.mono ?_
  rintro e w1 ⟨r, rfl, k1, h1, h2, h3⟩
  have H1 := HH.out.keep k1 (fun _ _ _ h => h)
  by_cases hr : r = 0
  · subst hr
    have hfin : GotBest L x w (.returned (.tuple #[.int .i64 0, .string ⟨#[]⟩, .bool false])) w1 := ⟨k1, .inl ⟨rfl, fun t ht => h3 t (Nat.zero_le _) ht⟩⟩
    have HF := Lib.hid hfin
    clear hfin H1 k1 h1 h2 h3
    go_wp2
    exact bodyPost_ret (v := .tuple #[.int .i64 0, .string ⟨#[]⟩, .bool false]) (by simp [results, Try.results35, go_sem]) rfl HF.out
  · obtain ⟨s, rfl⟩ : ∃ s, r = s + 1 := ⟨r - 1, by omega⟩
    have hs : s < L.length := by omega
    obtain ⟨y, hy⟩ : ∃ y : Int, y = (L.getD s (0, ⟨#[]⟩)).1 := ⟨_, rfl⟩
    obtain ⟨z, hz⟩ : ∃ z : ByteArray, z = (L.getD s (0, ⟨#[]⟩)).2 := ⟨_, rfl⟩
    have hfin : ∀ q, GotBest L x w (.returned (.tuple #[.int .i64 y, .string z, .bool true])) (w1.drewN q) := fun q =>
      ⟨k1.trans (T := fun _ => False) ⟨rfl, rfl, rfl, Nat.le_refl _, fun _ _ _ => rfl⟩ (fun _ _ h => h), .inr ⟨s, hs, by rw [hy, hz], h2 s (by omega), fun t ht ht2 => h3 t (by omega) ht2⟩⟩
    have HF := Lib.hid hfin
    have c1 := H1.c1
    obtain ⟨g, c, hv⟩ : ∃ g c, v = .slice (some ⟨g, 0, none⟩) L.length c := by
      rcases H1.own.2 with ⟨_, h0⟩ | ⟨g, cap, cur, e1, _⟩
      · omega
      · exact ⟨g, cap, e1⟩
    have ho := H1.own
    rw [hv] at c1 ho
    have d0 := ho.cellAt (s * 2) (by omega)
    have d1 := ho.cellAt (s * 2 + 1) (by omega)
    rw [(flatK_at L s hs).1, ← hy] at d0
    rw [(flatK_at L s hs).2, ← hz] at d1
    obtain ⟨N, hN⟩ : ∃ N : Nat, N = L.length := ⟨_, rfl⟩
    rw [← hN] at c1 hs hn
    have sN : (s : Int) < (N : Int) := by omega
    have s0 : (0 : Int) ≤ (s : Int) := by omega
    have s1 : IntKind.i64.wrap (s : Int) = (s : Int) := IntWalk.i64_in _ (by omega)
    have s2 : ¬ ((s : Int) + 1 = 0) := by omega
    have s3 : decide ((s : Int) + 1 = 0) = false := decide_eq_false s2
    clear hfin H1 k1 h1 h2 h3 hy hz ho hN hv
    go_wp2_with fail
    go_region
    all_goals
      go_wp2
      exact bodyPost_ret (v := .tuple #[.int .i64 y, .string z, .bool true]) (by simp [results, Try.results35, go_sem]) rfl (HF.out 1)

end Go.Proofs.Ytpighdioomjnmab.Str
