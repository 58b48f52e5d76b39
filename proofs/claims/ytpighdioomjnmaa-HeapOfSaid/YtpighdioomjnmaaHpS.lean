/-
  Layer 10: contracts of Ints and Same, of rows and lists that are the same. Written by an AI agent.
-/
import Derived.Test.YtpighdioomjnmaaHpH
namespace Go.Proofs.Ytpighdioomjnmaa
open Go.RowKit
set_option linter.unusedVariables false

theorem rdv_at {w : World} {A : Option Addr} {l : List Int} (h : RdV w A (iv l)) {k : Nat} (hk : k < l.length) : ∃ b off, A = some ⟨b, off, none⟩ ∧ ∀ i, i < l.length → w.cell? ⟨b, off + i, none⟩ = some (.int .i64 (l.getD i 0)) := by
  obtain ⟨b, off, h1, h2⟩ := h (by rw [iv_length]; omega)
  exact ⟨b, off, h1, fun i hi => by rw [h2 i (by rw [iv_length]; exact hi), iv_at hi]⟩

set_option maxRecDepth 100000 in
set_option maxHeartbeats 1000000 in
theorem ints_same (w : World) (A B : Option Addr) (ca cb : Nat) (l : List Int) (hl : l.length ≤ 1000000) (hA : RdV w A (iv l)) (hB : RdV w B (iv l)) :
    Calls Try.prog 26 #[.slice A l.length ca, .slice B l.length cb] w fun e w' => e = .returned (.bool true) ∧ ∃ k, w' = w.drewN k := by
  obtain ⟨n, hn⟩ : ∃ n : Nat, n = l.length := ⟨_, rfl⟩
  have HA := Lib.hid (fun k (hk : k < l.length) => rdv_at hA hk)
  have HB := Lib.hid (fun k (hk : k < l.length) => rdv_at hB hk)
  rw [← hn] at hl ⊢
  have HN := Lib.hid hn
  clear hn hA hB
  go_enter Try.func26, Try.ntmps26
  go_wp2_with fail
  go_loopw [5] (fun i wr => ∃ k : Nat, k ≤ n ∧ i = .int .i64 k ∧ ∃ q, wr = w.drewN q) (fun i _ => n - (intOf i).toNat)
  case atStart => exact ⟨0, Nat.zero_le _, rfl, 0, rfl⟩
  case round =>
    obtain ⟨k, hk, rfl, q, hq⟩ := hrel
    by_cases hkn : k < n
    · have hkn' : (k : Int) < (n : Int) := by omega
      have hk0 : (0 : Int) ≤ (k : Int) := by omega
      obtain ⟨ba, oa, rfl, ha⟩ := HA.out k (by rw [← HN.out]; exact hkn)
      obtain ⟨bb, ob, rfl, hb⟩ := HB.out k (by rw [← HN.out]; exact hkn)
      have ca1 : wr.cell? ⟨ba, oa + k, none⟩ = some (.int .i64 (l.getD k 0)) := by rw [hq]; simpa using ha k (by rw [← HN.out]; exact hkn)
      have cb1 : wr.cell? ⟨bb, ob + k, none⟩ = some (.int .i64 (l.getD k 0)) := by rw [hq]; simpa using hb k (by rw [← HN.out]; exact hkn)
      obtain ⟨x, hx⟩ : ∃ x : Int, x = l.getD k 0 := ⟨_, rfl⟩
      rw [← hx] at ca1 cb1
      have HQ := Lib.hid hq
      clear ha hb hq hx
      go_wp2_with fail
      go_quiet (fail)
      go_wp2
      go_roundw
      case rel => exact ⟨k + 1, by omega, by go_num, q + nq, by rw [HQ.out, World.drewN_drewN]⟩
      case measure => simp [intOf]; omega
    · obtain rfl : k = n := by omega
      have hd : decide (k < k) = false := by simp
      have HQ := Lib.hid hq
      clear hq
      go_wp2
      go_ret
      exact ⟨rfl, q, HQ.out⟩

/-- Lists that lie at a slice's cells, whoever made them. -/
def RdL (w : World) (A : Option Addr) (L : List (List Int)) : Prop :=
  0 < L.length → ∃ b off, A = some ⟨b, off, none⟩ ∧ ∀ i, i < L.length → ∃ Ai ci, w.cell? ⟨b, off + i, none⟩ = some (.slice Ai (L.getD i []).length ci) ∧ RdV w Ai (iv (L.getD i []))

theorem RdV.drewN {w : World} {A : Option Addr} {l : List Value} (h : RdV w A l) (q : Nat) : RdV (w.drewN q) A l := fun h0 => by
  obtain ⟨b, off, h1, h2⟩ := h h0
  exact ⟨b, off, h1, fun i hi => by simpa using h2 i hi⟩
theorem RdL.drewN {w : World} {A : Option Addr} {L : List (List Int)} (h : RdL w A L) (q : Nat) : RdL (w.drewN q) A L := fun h0 => by
  obtain ⟨b, off, h1, h2⟩ := h h0
  refine ⟨b, off, h1, fun i hi => ?_⟩
  obtain ⟨Ai, ci, h3, h4⟩ := h2 i hi
  exact ⟨Ai, ci, by simpa using h3, h4.drewN q⟩

theorem LsIs.rd {w : World} {S : Nat → Prop} {A : Option Addr} {c : Nat} {L : List (List Int)} (h : LsIs w S (.slice A L.length c) L) : RdL w A L := fun h0 => by
  obtain ⟨rows, h1, _, h3⟩ := h
  have hrl : rows.length = L.length := by have := h1.1; omega
  rcases h1.2 with ⟨_, h0'⟩ | ⟨g, cap, cur, hv, _⟩
  · omega
  · simp only [Value.slice.injEq] at hv
    obtain ⟨rfl, _, rfl⟩ := hv
    refine ⟨g, 0, rfl, fun i hi => ?_⟩
    obtain ⟨q1, _⟩ := h3 i hi
    obtain ⟨A2, c2, hr, _, _, _, _, hd⟩ := rdv_row q1
    refine ⟨A2, c2, ?_, hd⟩
    rw [Nat.zero_add, h1.cellAt i (by omega), ← hr, List.getD_eq_getElem?_getD, List.getElem?_eq_getElem (by omega)]
    rfl

set_option maxRecDepth 100000 in
set_option maxHeartbeats 1000000 in
theorem same_same (w : World) (A B : Option Addr) (ca cb : Nat) (L : List (List Int)) (hL : L.length ≤ 1000000) (hl : ∀ i, (L.getD i []).length ≤ 1000000) (hA : RdL w A L) (hB : RdL w B L) :
    Calls Try.prog 19 #[.slice A L.length ca, .slice B L.length cb] w fun e w' => e = .returned (.bool true) ∧ ∃ k, w' = w.drewN k := by
  obtain ⟨n, hn⟩ : ∃ n : Nat, n = L.length := ⟨_, rfl⟩
  have HA := Lib.hid hA
  have HB := Lib.hid hB
  have HL := Lib.hid hl
  rw [← hn] at hL ⊢
  have HN := Lib.hid hn
  clear hn hA hB hl
  go_enter Try.func19, Try.ntmps19
  go_wp2_with fail
  go_loopw [5] (fun i wr => ∃ k : Nat, k ≤ n ∧ i = .int .i64 k ∧ ∃ q, wr = w.drewN q) (fun i _ => n - (intOf i).toNat)
  case atStart => exact ⟨0, Nat.zero_le _, rfl, 0, rfl⟩
  case round =>
    obtain ⟨k, hk, rfl, q, hq⟩ := hrel
    by_cases hkn : k < n
    · have hkn' : (k : Int) < (n : Int) := by omega
      have hk0 : (0 : Int) ≤ (k : Int) := by omega
      obtain ⟨ba, oa, hA1, ha⟩ := HA.out (by rw [← HN.out]; omega)
      obtain ⟨bb, ob, hB1, hb⟩ := HB.out (by rw [← HN.out]; omega)
      obtain ⟨A2, c2, ha1, ha2⟩ := ha k (by rw [← HN.out]; exact hkn)
      obtain ⟨B2, d2, hb1, hb2⟩ := hb k (by rw [← HN.out]; exact hkn)
      have IC : Hid (∀ r, Calls Try.prog 26 #[.slice A2 (L.getD k []).length c2, .slice B2 (L.getD k []).length d2] (wr.drewN r) fun e w' => e = .returned (.bool true) ∧ ∃ m, w' = (wr.drewN r).drewN m) := fun r => by
        rw [hq]
        exact ints_same ((w.drewN q).drewN r) A2 B2 c2 d2 _ (HL.out k) ((ha2.drewN q).drewN r) ((hb2.drewN q).drewN r)
      have ca1 : wr.cell? ⟨ba, oa + k, none⟩ = some (.slice A2 (L.getD k []).length c2) := by rw [hq]; simpa using ha1
      have cb1 : wr.cell? ⟨bb, ob + k, none⟩ = some (.slice B2 (L.getD k []).length d2) := by rw [hq]; simpa using hb1
      obtain ⟨m, hm⟩ : ∃ m : Nat, m = (L.getD k []).length := ⟨_, rfl⟩
      rw [← hm] at ca1 cb1 IC
      subst hA1
      subst hB1
      have HQ := Lib.hid hq
      clear ha hb hq hm ha1 hb1 ha2 hb2
      go_wp2_with fail
      go_quiet ((go_at_call 26; exact Calls.quiet_of (IC.out _)))
      go_wp2
      go_roundw
      case rel => exact ⟨k + 1, by omega, by go_num, q + nq, by rw [HQ.out, World.drewN_drewN]⟩
      case measure => simp [intOf]; omega
    · obtain rfl : k = n := by omega
      have hd : decide (k < k) = false := by simp
      have HQ := Lib.hid hq
      clear hq
      go_wp2
      go_ret
      exact ⟨rfl, q, HQ.out⟩

end Go.Proofs.Ytpighdioomjnmaa
