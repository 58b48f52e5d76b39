/-
  Layer 10: contracts over lists; the document's example. Written by an AI agent.
-/
import Derived.Test.YtpighdioomjnmaaHpE
namespace Go.Proofs.Ytpighdioomjnmaa
open Go.RowKit
set_option linter.unusedVariables false

/-- A heap of these lists. -/
def HeapL (w : World) (S : Nat → Prop) (p : Nat) (L : List (List Int)) : Prop := ∃ vc ve, HeapIs w S p vc ve L.flatten (ends L)

theorem HeapL.keep {w w' : World} {S T : Nat → Prop} {p : Nat} {L : List (List Int)} (h : HeapL w S p L) (hk : Keeps T w w') (hT : ∀ k, k < w.heap.size → S k → ¬ T k) : HeapL w' S p L := by
  obtain ⟨vc, ve, H⟩ := h
  exact ⟨vc, ve, H.keep hk hT⟩
theorem HeapL.wider {w : World} {S T : Nat → Prop} {p : Nat} {L : List (List Int)} (h : HeapL w S p L) (hST : ∀ k, k < w.heap.size → S k → T k) : HeapL w T p L := by
  obtain ⟨vc, ve, H⟩ := h
  exact ⟨vc, ve, H.wider hST⟩
theorem HeapL.lt {w : World} {S : Nat → Prop} {p : Nat} {L : List (List Int)} (h : HeapL w S p L) : p < w.heap.size := by
  obtain ⟨vc, ve, H⟩ := h
  exact H.lt

theorem heapL_new (w : World) : HeapL (w.alloc (.cells #[.slice none 0 0, .slice none 0 0] 52)) (fun k => k = w.heap.size) w.heap.size [] :=
  ⟨.slice none 0 0, .slice none 0 0, by simp, by simp, fun k => World.frozen?_alloc_new _ _ _ _, by simp, World.ownsRow_nil _ _ _ _, World.ownsRow_nil _ _ _ _, rfl, by simp [Value.ownBlock], by simp [Value.ownBlock], by simp [Value.ownBlock]⟩

/-- What Make leaves, of lists. -/
def MadeL (S : Nat → Prop) (p : Nat) (L : List (List Int)) (n : Nat) (w : World) (e : Ending) (w' : World) : Prop :=
  e = .returned (.tuple #[.int .i64 ((L.length : Int) + 1), .int .i64 0]) ∧ HeapL w' (fun k => S k ∨ (w.heap.size ≤ k ∧ k < w'.heap.size)) p (L ++ [List.replicate n 0]) ∧ Keeps S w w'

theorem flat_snoc (L : List (List Int)) (n : Nat) : (L ++ [List.replicate n 0]).flatten = L.flatten ++ List.replicate n 0 := by simp

theorem make_ok (w : World) (S : Nat → Prop) (p : Nat) (L : List (List Int)) (H : HeapL w S p L) (n : Nat) (h16 : n ≤ 16) (h : L.length + L.flatten.length + n + 1 ≤ 40) :
    Calls Try.prog 10 #[.pointer (some ⟨p, 0, none⟩), .int .i64 (n : Int)] w (MadeL S p L n w) := by
  obtain ⟨vc, ve, H⟩ := H
  obtain ⟨A, cc, rfl, _⟩ := rdv_row H.oc
  obtain ⟨B, ce, rfl, _⟩ := rdv_row H.oe
  refine (make_fits w S p _ cc _ ce A B L.flatten (ends L) H rfl rfl n h16 (by rw [ends_length]; omega)).mono ?_
  rintro e w' ⟨vc, ve, he, h1, h2⟩
  refine ⟨by rw [he, ends_length], ⟨vc, ve, ?_⟩, h2⟩
  rw [flat_snoc, ends_snoc, List.length_replicate]
  rw [show ((L.flatten.length + n : Nat) : Int) = (L.flatten.length : Int) + (n : Int) by omega]
  exact h1

theorem make_no (w : World) (S : Nat → Prop) (p : Nat) (L : List (List Int)) (H : HeapL w S p L) (hL : L.length ≤ 1000) (hc : L.flatten.length ≤ 1000) (n : Nat) (h16 : n ≤ 16) (h : 40 < L.length + L.flatten.length + n + 1) :
    Calls Try.prog 10 #[.pointer (some ⟨p, 0, none⟩), .int .i64 (n : Int)] w fun e w' => e = .returned (.tuple #[.int .i64 0, .int .i64 4]) ∧ ∃ k, w' = w.drewN k := by
  obtain ⟨vc, ve, H⟩ := H
  have q0 := H.c0
  have q1 := H.c1
  obtain ⟨A, cc, hv, _⟩ := rdv_row H.oc
  obtain ⟨B, ce, hw, _⟩ := rdv_row H.oe
  rw [hv] at q0
  rw [hw, ends_length] at q1
  exact make_full w p _ cc _ ce A B n q0 q1 hc hL h16 (by omega)

/-- What Put leaves, of lists. -/
def PutL (S : Nat → Prop) (p : Nat) (L : List (List Int)) (w : World) (e : Ending) (w' : World) : Prop :=
  e = .returned (.int .i64 0) ∧ HeapL w' S p L ∧ Keeps S w w'

theorem put_ok (w : World) (S : Nat → Prop) (p : Nat) (L : List (List Int)) (H : HeapL w S p L) (hL : L.length ≤ 1000) (hc : L.flatten.length ≤ 1000) (k i : Nat) (hk : k < L.length) (hi : i < (L.getD k []).length) (n : Int) :
    Calls Try.prog 14 #[.pointer (some ⟨p, 0, none⟩), .int .i64 ((k : Int) + 1), .int .i64 (i : Int), .int .i64 n] w (PutL S p (setL L k i n) w) := by
  obtain ⟨vc, ve, H⟩ := H
  refine (put_in w S p vc ve L H hL hc k i hk hi n).mono ?_
  rintro e w' ⟨h1, h2, h3⟩
  exact ⟨h1, ⟨vc, ve, h2⟩, h3⟩

theorem lists_ok (w : World) (S : Nat → Prop) (p : Nat) (L : List (List Int)) (H : HeapL w S p L) (hL : L.length ≤ 1000) (hc : L.flatten.length ≤ 1000) :
    Calls Try.prog 20 #[.pointer (some ⟨p, 0, none⟩)] w (GotLists L w) := by
  obtain ⟨vc, ve, H⟩ := H
  exact lists_any w S p vc ve L H hL hc

theorem LsIs.read {w : World} {S : Nat → Prop} {A : Option Addr} {c : Nat} {L : List (List Int)} (h : LsIs w S (.slice A L.length c) L) {i : Nat} (hi : i < L.length) :
    ∃ g A2 c2, A = some ⟨g, 0, none⟩ ∧ w.cell? ⟨g, i, none⟩ = some (.slice A2 (L.getD i []).length c2) ∧ ∀ j, j < (L.getD i []).length → ∃ g2, A2 = some ⟨g2, 0, none⟩ ∧ w.cell? ⟨g2, j, none⟩ = some (.int .i64 ((L.getD i []).getD j 0)) := by
  obtain ⟨rows, h1, _, h3⟩ := h
  obtain ⟨q1, _⟩ := h3 i hi
  have hrl : rows.length = L.length := by have := h1.1; omega
  rcases h1.2 with ⟨_, h0⟩ | ⟨g, cap, cur, hv, _⟩
  · omega
  · simp only [Value.slice.injEq] at hv
    obtain ⟨rfl, _, rfl⟩ := hv
    obtain ⟨A2, c2, hr, _, _, _, _, hd⟩ := rdv_row q1
    refine ⟨g, A2, c2, rfl, ?_, fun j hj => ?_⟩
    · rw [h1.cellAt i (by omega), ← hr, List.getD_eq_getElem?_getD, List.getElem?_eq_getElem (by omega)]
      rfl
    · obtain ⟨g2, off, rfl, hc⟩ := hd (by rw [iv_length]; omega)
      have := hc j (by rw [iv_length]; exact hj)
      rcases q1.2 with ⟨e, h0⟩ | ⟨g3, cap3, cur3, e, _⟩
      · omega
      · rw [hr] at e
        simp only [Value.slice.injEq, Option.some.injEq, Addr.mk.injEq] at e
        obtain ⟨⟨_, rfl, _⟩, _, _⟩ := e
        exact ⟨g2, rfl, by rw [Nat.zero_add] at this; rw [this, iv_at hj]⟩

set_option maxRecDepth 100000 in
set_option maxHeartbeats 1000000 in
theorem shown_any (w : World) : Calls Try.prog 8 #[] w fun e w' => e = .returned (.bool true) ∧ Below w.heap.size w w' := by
  go_enter Try.func8, Try.ntmps8
  go_wp2_with fail
  refine (new_any _).mono ?_
  rintro e w1 ⟨rfl, hw1⟩
  have H1 := heapL_new w
  have B1 : Below w.heap.size w w1 := by rw [hw1]; exact (Below.refl _ w).alloc (Nat.le_refl _) _
  have S1 : w1.heap.size = w.heap.size + 1 := by rw [hw1]; simp
  rw [← hw1] at H1
  clear hw1
  have HH1 := Lib.hid H1
  have HB1 := Lib.hid B1
  have HS1 := Lib.hid S1
  clear H1 B1 S1
  go_wp2_with fail
  refine (make_ok w1 _ _ [] HH1.out 2 (by omega) (by decide)).mono ?_
  rintro e w2 ⟨rfl, H2, K2⟩
  have HH2 := Lib.hid H2
  have HK2 := Lib.hid K2
  clear H2 K2
  go_wp2_with fail
  refine (put_ok w2 _ _ _ HH2.out (by decide) (by decide) 0 1 (by decide) (by decide) 7).mono ?_
  rintro e w3 ⟨rfl, H3, K3⟩
  have HH3 := Lib.hid H3
  have HK3 := Lib.hid K3
  clear H3 K3
  go_wp2_with fail
  refine (lists_ok w3 _ _ _ HH3.out (by decide) (by decide)).mono ?_
  rintro e w4 ⟨v, cap, A, rfl, rfl, H4, K4⟩
  obtain ⟨g, A2, c2, rfl, hc0, hd⟩ := LsIs.read H4 (i := 0) (by decide)
  obtain ⟨g2, rfl, hc1⟩ := hd 1 (by decide)
  have e1 : (setL ([] ++ [List.replicate 2 0]) 0 1 7).length = 1 := rfl
  have e2 : ((setL ([] ++ [List.replicate 2 0]) 0 1 7).getD 0 []).length = 2 := rfl
  have e3 : ((setL ([] ++ [List.replicate 2 0]) 0 1 7).getD 0 []).getD 1 0 = 7 := rfl
  rw [e1] at *
  rw [e2] at hc0
  rw [e3] at hc1
  have HK4 := Lib.hid K4
  clear e1 e2 e3 hd H4 K4
  go_wp2
  go_ret
  refine ⟨rfl, ?_⟩
  have s1 := HS1.out
  have k2 : Below w.heap.size w1 w2 := HK2.out.toBelow (by omega) (fun k hk => by omega)
  have s2 := HK2.out.size
  have k3 : Below w.heap.size w2 w3 := HK3.out.toBelow (by omega) (fun k hk => by omega)
  have s3 := HK3.out.size
  have k4 : Below w.heap.size w3 w4 := HK4.out.toBelow (by omega) (fun k hk => hk.elim)
  exact HB1.out.trans (k2.trans (k3.trans k4))

end Go.Proofs.Ytpighdioomjnmaa
