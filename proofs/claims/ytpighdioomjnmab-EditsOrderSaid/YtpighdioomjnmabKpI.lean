/-
  Layer 14: the contracts of New and Best of numbers. Written by an AI agent.
-/
import Derived.Test.YtpighdioomjnmabKpH
namespace Go.Proofs.Ytpighdioomjnmab
open Go.RowKit Go.Shelf
set_option linter.unusedVariables false
set_option linter.unusedSimpArgs false

theorem knew_any (w : World) (most : Int) :
    Calls Try.prog 12 #[.int .i64 most] w fun e w' => e = .returned (.pointer (some ⟨w.heap.size, 0, none⟩)) ∧ w' = w.alloc (.cells #[.int .i64 most, .slice none 0 0] 69) := by
  go_enter Try.func12, Try.ntmps12
  go_wp2
  go_ret
  exact ⟨rfl, rfl⟩

theorem keepIs_new (w : World) (most : Int) : KeepIs (w.alloc (.cells #[.int .i64 most, .slice none 0 0] 69)) (fun k => k = w.heap.size) w.heap.size most (.slice none 0 0) [] where
  c0 := by simp
  c1 := by simp
  fz := fun k => World.frozen?_alloc_new _ _ _ _
  lt := by simp
  sp := rfl
  own := World.ownsRow_nil _ _ _ _
  vb := by simp [Value.ownBlock]
  up := fun i j _ h => absurd h (Nat.not_lt_zero _)

/-- What Best tells. -/
def GotBest (L : List (Int × Int)) (x : Int) (w : World) (e : Ending) (w' : World) : Prop :=
  Keeps (fun _ => False) w w' ∧ ((e = .returned (.tuple #[.int .i64 0, .int .i64 0, .bool false]) ∧ ∀ t, t < L.length → x < (L.getD t (0, 0)).1) ∨
    (∃ s, s < L.length ∧ e = .returned (.tuple #[.int .i64 (L.getD s (0, 0)).1, .int .i64 (L.getD s (0, 0)).2, .bool true]) ∧ (L.getD s (0, 0)).1 ≤ x ∧ ∀ t, s < t → t < L.length → x < (L.getD t (0, 0)).1))

set_option maxRecDepth 100000 in
set_option maxHeartbeats 2000000 in
theorem best_any (w : World) (S : Nat → Prop) (kp : Nat) (most : Int) (v : Value) (L : List (Int × Int)) (H : KeepIs w S kp most v L) (hn : L.length ≤ 1000) (x : Int) :
    Calls Try.prog 16 #[.pointer (some ⟨kp, 0, none⟩), .int .i64 x] w (GotBest L x w) := by
  have BC := Lib.hid (behind_any w S kp most v L H hn x)
  have HH := Lib.hid H
  clear H
  go_enter Try.func16, Try.ntmps16
  go_wp2_with fail
  refine BC.out.mono ?_
  rintro e w1 ⟨r, rfl, k1, h1, h2, h3⟩
  have H1 := HH.out.keep k1 (fun _ _ _ h => h)
  by_cases hr : r = 0
  · subst hr
    have hfin : GotBest L x w (.returned (.tuple #[.int .i64 0, .int .i64 0, .bool false])) w1 := ⟨k1, .inl ⟨rfl, fun t ht => h3 t (Nat.zero_le _) ht⟩⟩
    have HF := Lib.hid hfin
    clear hfin H1 k1 h1 h2 h3
    go_wp2
    exact bodyPost_ret (v := .tuple #[.int .i64 0, .int .i64 0, .bool false]) (by simp [results, Try.results16, go_sem]) rfl HF.out
  · obtain ⟨s, rfl⟩ : ∃ s, r = s + 1 := ⟨r - 1, by omega⟩
    have hs : s < L.length := by omega
    obtain ⟨y, hy⟩ : ∃ y : Int, y = (L.getD s (0, 0)).1 := ⟨_, rfl⟩
    obtain ⟨z, hz⟩ : ∃ z : Int, z = (L.getD s (0, 0)).2 := ⟨_, rfl⟩
    have hfin : ∀ q, GotBest L x w (.returned (.tuple #[.int .i64 y, .int .i64 z, .bool true])) (w1.drewN q) := fun q =>
      ⟨k1.trans (T := fun _ => False) ⟨rfl, rfl, rfl, Nat.le_refl _, fun _ _ _ => rfl⟩ (fun _ _ h => h), .inr ⟨s, hs, by rw [hy, hz], h2 s (by omega), fun t ht ht2 => h3 t (by omega) ht2⟩⟩
    have HF := Lib.hid hfin
    have c1 := H1.c1
    obtain ⟨g, c, hv⟩ : ∃ g c, v = .slice (some ⟨g, 0, none⟩) L.length c := by
      rcases H1.own.2 with ⟨_, h0⟩ | ⟨g, cap, cur, e1, _⟩
      · omega
      · exact ⟨g, cap, e1⟩
    have ho := H1.own
    rw [hv] at c1 ho
    have d0 := ho.cellAt (s * 2) (by omega)
    have d1 := ho.cellAt (s * 2 + 1) (by omega)
    rw [(flatK_at L s hs).1, ← hy] at d0
    rw [(flatK_at L s hs).2, ← hz] at d1
    obtain ⟨N, hN⟩ : ∃ N : Nat, N = L.length := ⟨_, rfl⟩
    rw [← hN] at c1 hs hn
    have sN : (s : Int) < (N : Int) := by omega
    have s0 : (0 : Int) ≤ (s : Int) := by omega
    have s1 : IntKind.i64.wrap (s : Int) = (s : Int) := IntWalk.i64_in _ (by omega)
    have s2 : ¬ ((s : Int) + 1 = 0) := by omega
    have s3 : decide ((s : Int) + 1 = 0) = false := decide_eq_false s2
    clear hfin H1 k1 h1 h2 h3 hy hz ho hN hv
    go_wp2_with fail
    go_region
    all_goals
      go_wp2
      exact bodyPost_ret (v := .tuple #[.int .i64 y, .int .i64 z, .bool true]) (by simp [results, Try.results16, go_sem]) rfl (HF.out 1)

end Go.Proofs.Ytpighdioomjnmab
