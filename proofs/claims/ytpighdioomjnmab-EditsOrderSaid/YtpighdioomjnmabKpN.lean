/-
  Layer 14: Put of a time that is there. Written by an AI agent.
-/
import Derived.Test.YtpighdioomjnmabKpM
namespace Go.Proofs.Ytpighdioomjnmab
open Go.RowKit Go.Shelf
set_option linter.unusedVariables false
set_option linter.unusedSimpArgs false

theorem flatK_set (L : List (Int × Int)) (k : Nat) (x : Int) (h : k < L.length) : (flatK L).set (k * 2 + 1) (.int .i64 x) = flatK (L.set k ((L.getD k (0, 0)).1, x)) := by
  induction L generalizing k with
  | nil => exact absurd h (Nat.not_lt_zero _)
  | cons a L ih =>
    cases k with
    | zero => simp [flatK_cons]
    | succ k =>
      have h2 := ih k (by simpa using h)
      rw [show (k + 1) * 2 + 1 = k * 2 + 1 + 1 + 1 by omega, flatK_cons, List.set_cons_succ, List.set_cons_succ, h2, List.set_cons_succ, flatK_cons]
      rfl

/-- A number of a Keep set. -/
theorem KeepIs.set {w : World} {S : Nat → Prop} {kp g c k : Nat} {most : Int} {L : List (Int × Int)} (H : KeepIs w S kp most (.slice (some ⟨g, 0, none⟩) L.length c) L) (hk : k < L.length) (x : Int) :
    KeepIs (w.setCell ⟨g, k * 2 + 1, none⟩ (.int .i64 x)) S kp most (.slice (some ⟨g, 0, none⟩) L.length c) (L.set k ((L.getD k (0, 0)).1, x)) ∧ Keeps S w (w.setCell ⟨g, k * 2 + 1, none⟩ (.int .i64 x)) := by
  obtain ⟨hS, hne⟩ := H.vb g rfl
  refine ⟨⟨(World.cell?_setCell_other w _ _ _ (by simp [hne])).trans H.c0, (World.cell?_setCell_other w _ _ _ (by simp [hne])).trans H.c1, fun q => by rw [World.frozen?_setCell]; exact H.fz q, by simpa using H.lt, H.sp, ?_, H.vb, up_set H.up hk rfl⟩, (Keeps.refl S w).setCell (fun _ => hS) _⟩
  rw [List.length_set, ← flatK_set L k x hk]
  exact (H.own.stored (k * 2 + 1) _).1

/-- What Put of a time that is there leaves. -/
def PutThere (S : Nat → Prop) (kp : Nat) (most : Int) (L : List (Int × Int)) (a x : Int) (w : World) (e : Ending) (w' : World) : Prop :=
  ∃ (k : Nat) (v' : Value), e = .returned (.tuple #[]) ∧ k < L.length ∧ (L.getD k (0, 0)).1 = a ∧ KeepIs w' S kp most v' (L.set k (a, x)) ∧ Keeps S w w'

set_option maxRecDepth 100000 in
set_option maxHeartbeats 2000000 in
theorem put_there (w : World) (S : Nat → Prop) (kp : Nat) (most : Int) (v : Value) (L : List (Int × Int)) (H : KeepIs w S kp most v L) (hn : L.length ≤ 1000) (a x : Int) (k0 : Nat) (hk0 : k0 < L.length) (hka : (L.getD k0 (0, 0)).1 = a) :
    Calls Try.prog 14 #[.pointer (some ⟨kp, 0, none⟩), .int .i64 a, .int .i64 x] w (PutThere S kp most L a x w) := by
  have BC := Lib.hid (behind_any w S kp most v L H hn a)
  have HH := Lib.hid H
  clear H
  go_enter Try.func14, Try.ntmps14
  go_wp2_with fail
  refine BC.out.mono ?_
  rintro e w1 ⟨r, rfl, k1, h1, h2, h3⟩
  have H1 := HH.out.keep k1 (fun _ _ _ h => h)
  -- behind's place is the next one
  have hr : r = k0 + 1 := by
    have hup : Up L := H1.up
    rcases Nat.lt_trichotomy r (k0 + 1) with h | h | h
    · have := h3 k0 (by omega) hk0
      omega
    · exact h
    · have h4 := h2 (k0 + 1) h
      have h5 := hup k0 (k0 + 1) (by omega) (by omega)
      omega
  subst hr
  obtain ⟨g, c, rfl⟩ : ∃ g c, v = .slice (some ⟨g, 0, none⟩) L.length c := by
    rcases H1.own.2 with ⟨_, h0⟩ | ⟨g, cap, cur, e1, _⟩
    · omega
    · exact ⟨g, cap, e1⟩
  have hset := H1.set hk0 x
  rw [hka] at hset
  have HS : Hid (PutThere S kp most L a x w (.returned (.tuple #[])) (w1.setCell ⟨g, k0 * 2 + 1, none⟩ (.int .i64 x))) := ⟨k0, _, rfl, hk0, hka, hset.1, (k1.mono (T := S) (fun _ _ h => h.elim)).trans hset.2 (fun _ _ h => h)⟩
  have c1 := H1.c1
  have d0 := H1.own.cellAt (k0 * 2) (by omega)
  have d1 := H1.own.cellAt (k0 * 2 + 1) (by omega)
  rw [(flatK_at L k0 hk0).1, hka] at d0
  rw [(flatK_at L k0 hk0).2] at d1
  have fz := H1.own.frozenAt (k0 * 2 + 1)
  obtain ⟨z, hz⟩ : ∃ z : Int, z = (L.getD k0 (0, 0)).2 := ⟨_, rfl⟩
  rw [← hz] at d1
  obtain ⟨N, hN⟩ : ∃ N : Nat, N = L.length := ⟨_, rfl⟩
  rw [← hN] at c1 hn hk0
  have s0 : (0 : Int) ≤ (k0 : Int) := by omega
  have sN : (k0 : Int) < (N : Int) := by omega
  have s1 : IntKind.i64.wrap (k0 : Int) = (k0 : Int) := IntWalk.i64_in _ (by omega)
  have s2 : (0 : Int) < (k0 : Int) + 1 := by omega
  clear H1 h1 h2 h3 k1 hset hz hN hka
  go_wp2
  exact bodyPost_ret (v := .tuple #[]) (by simp [results, Try.results14, go_sem]) rfl HS.out

end Go.Proofs.Ytpighdioomjnmab
