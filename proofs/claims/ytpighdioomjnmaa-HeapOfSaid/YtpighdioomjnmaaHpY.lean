/-
  Layer 10: the document's heap: contracts of there, Get, Put and Len. Written by an AI agent.
-/
import Derived.Test.YtpighdioomjnmaaHpR
namespace Go.Proofs.Ytpighdioomjnmaa
open Go.RowKit
set_option linter.unusedVariables false

/-- Whether there is such a place. -/
def ThereP (L : List (List Int)) (a i : Int) (w : World) (e : Ending) (w' : World) : Prop := (∃ b : Bool, e = .returned (.bool b) ∧ (b = true ↔ InL L a i)) ∧ w' = w

set_option maxRecDepth 100000 in
theorem there_any (w : World) (S : Nat → Prop) (p : Nat) (L : List (List Int)) (H : RefIs w S p L) (hL : L.length ≤ 1000) (a i : Int) :
    Calls Try.prog 25 #[.pointer (some ⟨p, 0, none⟩), .int .i64 a, .int .i64 i] w (ThereP L a i w) := by
  obtain ⟨v, rows, c0, fz, hp, hS, H⟩ := H
  obtain ⟨A, c, rfl⟩ := H.form
  obtain ⟨N, hN⟩ : ∃ N : Nat, N = L.length := ⟨_, rfl⟩
  have hread : ∀ k, k < N → ∃ g A2 c2, A = some ⟨g, 0, none⟩ ∧ w.cell? ⟨g, k, none⟩ = some (.slice A2 (L.getD k []).length c2) := fun k hk => by
    obtain ⟨g, A2, c2, h1, h2, _⟩ := H.ls.read (i := k) (by omega)
    exact ⟨g, A2, c2, h1, h2⟩
  have hIn : InL L a i ↔ 0 ≤ i ∧ i < ((if 1 ≤ a ∧ a ≤ (N : Int) then (L.getD (a.toNat - 1) []).length else 0 : Nat) : Int) := by unfold InL lenAt; rw [hN]
  rw [← hN] at c0 hL
  have HR := Lib.hid hread
  have HI := Lib.hid hIn
  clear H hread hIn hN fz hS
  by_cases a1 : 1 ≤ a
  · have d1 : decide (1 ≤ a) = true := decide_eq_true a1
    by_cases a2 : a ≤ (N : Int)
    · have d2 : decide (a ≤ (N : Int)) = true := decide_eq_true a2
      by_cases i0 : 0 ≤ i
      · have d3 : decide (0 ≤ i) = true := decide_eq_true i0
        obtain ⟨k, rfl⟩ : ∃ k : Nat, a = (k : Int) + 1 := ⟨(a - 1).toNat, by omega⟩
        obtain ⟨g, A2, c2, rfl, hc⟩ := HR.out k (by omega)
        obtain ⟨m, hm⟩ : ∃ m : Nat, m = (L.getD k []).length := ⟨_, rfl⟩
        rw [← hm] at hc
        have hI2 : InL L ((k : Int) + 1) i ↔ i < (m : Int) := by
          rw [HI.out, if_pos ⟨a1, a2⟩, hm, show ((k : Int) + 1).toNat - 1 = k by omega]
          exact ⟨fun h => h.2, fun h => ⟨i0, h⟩⟩
        have HI2 := Lib.hid hI2
        clear hI2 hm
        have s1 : IntKind.i64.wrap ((k : Int) + 1 - 1) = (k : Int) := by rw [IntWalk.i64_in _ (by omega)]; omega
        have k0 : (0 : Int) ≤ (k : Int) := by omega
        have kN : (k : Int) < (N : Int) := by omega
        by_cases im : i < (m : Int)
        · have d4 : decide (i < (m : Int)) = true := decide_eq_true im
          go_enter Try.func25, Try.ntmps25
          go_wp2
          go_ret
          exact ⟨⟨true, rfl, by rw [HI2.out]; exact ⟨fun _ => im, fun _ => rfl⟩⟩, rfl⟩
        · have d4 : decide (i < (m : Int)) = false := decide_eq_false im
          go_enter Try.func25, Try.ntmps25
          go_wp2
          go_ret
          exact ⟨⟨false, rfl, by rw [HI2.out]; exact ⟨(fun h => by cases h), fun h => absurd h (by omega)⟩⟩, rfl⟩
      · have d3 : decide (0 ≤ i) = false := decide_eq_false i0
        go_enter Try.func25, Try.ntmps25
        go_wp2
        go_ret
        exact ⟨⟨false, rfl, by rw [HI.out]; exact ⟨(fun h => by cases h), fun h => absurd h.1 (by omega)⟩⟩, rfl⟩
    · have d2 : decide (a ≤ (N : Int)) = false := decide_eq_false a2
      go_enter Try.func25, Try.ntmps25
      go_wp2
      go_ret
      refine ⟨⟨false, rfl, ?_⟩, rfl⟩
      rw [HI.out, if_neg (by omega)]
      exact ⟨(fun h => by cases h), fun h => by omega⟩
  · have d1 : decide (1 ≤ a) = false := decide_eq_false a1
    go_enter Try.func25, Try.ntmps25
    go_wp2
    go_ret
    refine ⟨⟨false, rfl, ?_⟩, rfl⟩
    rw [HI.out, if_neg (by omega)]
    exact ⟨(fun h => by cases h), fun h => by omega⟩

set_option maxRecDepth 100000 in
theorem rlen_any (w : World) (S : Nat → Prop) (p : Nat) (L : List (List Int)) (H : RefIs w S p L) (hL : L.length ≤ 1000) (a : Int) :
    Calls Try.prog 17 #[.pointer (some ⟨p, 0, none⟩), .int .i64 a] w fun e w' => e = .returned (.int .i64 (lenAt L a : Int)) ∧ w' = w := by
  obtain ⟨v, rows, c0, fz, hp, hS, H⟩ := H
  obtain ⟨A, c, rfl⟩ := H.form
  obtain ⟨N, hN⟩ : ∃ N : Nat, N = L.length := ⟨_, rfl⟩
  obtain ⟨m, hm⟩ : ∃ m : Nat, m = lenAt L a := ⟨_, rfl⟩
  have hread : ∀ k, k < N → ∃ g A2 c2, A = some ⟨g, 0, none⟩ ∧ w.cell? ⟨g, k, none⟩ = some (.slice A2 (L.getD k []).length c2) := fun k hk => by
    obtain ⟨g, A2, c2, h1, h2, _⟩ := H.ls.read (i := k) (by omega)
    exact ⟨g, A2, c2, h1, h2⟩
  have hIn : m = if 1 ≤ a ∧ a ≤ (N : Int) then (L.getD (a.toNat - 1) []).length else 0 := by rw [hm]; unfold lenAt; rw [hN]
  rw [← hN] at c0 hL
  rw [← hm]
  have HR := Lib.hid hread
  have HI := Lib.hid hIn
  clear H hread hIn hN hm fz hS
  by_cases a1 : a < 1
  · have d1 : decide (a < 1) = true := decide_eq_true a1
    have hm0 : m = 0 := by rw [HI.out, if_neg (by omega)]
    have HM := Lib.hid hm0
    clear hm0
    go_enter Try.func17, Try.ntmps17
    go_wp2
    go_ret
    exact ⟨by rw [HM.out]; rfl, rfl⟩
  · have d1 : decide (a < 1) = false := decide_eq_false a1
    by_cases a2 : (N : Int) < a
    · have d2 : decide ((N : Int) < a) = true := decide_eq_true a2
      have hm0 : m = 0 := by rw [HI.out, if_neg (by omega)]
      have HM := Lib.hid hm0
      clear hm0
      go_enter Try.func17, Try.ntmps17
      go_wp2
      go_ret
      exact ⟨by rw [HM.out]; rfl, rfl⟩
    · have d2 : decide ((N : Int) < a) = false := decide_eq_false a2
      obtain ⟨k, rfl⟩ : ∃ k : Nat, a = (k : Int) + 1 := ⟨(a - 1).toNat, by omega⟩
      obtain ⟨g, A2, c2, rfl, hc⟩ := HR.out k (by omega)
      have hmk : (L.getD k []).length = m := by rw [HI.out, if_pos (by omega), show ((k : Int) + 1).toNat - 1 = k by omega]
      rw [hmk] at hc
      have s1 : IntKind.i64.wrap ((k : Int) + 1 - 1) = (k : Int) := by rw [IntWalk.i64_in _ (by omega)]; omega
      have k0 : (0 : Int) ≤ (k : Int) := by omega
      have kN : (k : Int) < (N : Int) := by omega
      clear hmk
      go_enter Try.func17, Try.ntmps17
      go_wp2
      go_ret
      exact ⟨rfl, rfl⟩

set_option maxRecDepth 100000 in
theorem rget_any (w : World) (S : Nat → Prop) (p : Nat) (L : List (List Int)) (H : RefIs w S p L) (hL : L.length ≤ 1000) (a i : Int) :
    Calls Try.prog 13 #[.pointer (some ⟨p, 0, none⟩), .int .i64 a, .int .i64 i] w (GotAny L a i w) := by
  have TC := Lib.hid (there_any w S p L H hL a i)
  obtain ⟨v, rows, c0, fz, hp, hS, H⟩ := H
  obtain ⟨A, c, rfl⟩ := H.form
  have hls := Lib.hid H.ls
  obtain ⟨N, hN⟩ : ∃ N : Nat, N = L.length := ⟨_, rfl⟩
  rw [← hN] at c0 hL
  have HN := Lib.hid hN
  clear H fz hS hN
  by_cases hin : InL L a i
  · obtain ⟨k, j, rfl, rfl, hk, hj, e1, e2⟩ := hin.parts
    obtain ⟨g, A2, c2, rfl, hc, hd⟩ := hls.out.read (i := k) hk
    obtain ⟨g2, rfl, hv⟩ := hd j hj
    obtain ⟨m, hm⟩ : ∃ m : Nat, m = (L.getD k []).length := ⟨_, rfl⟩
    obtain ⟨x, hx⟩ : ∃ x : Int, x = (L.getD k []).getD j 0 := ⟨_, rfl⟩
    rw [← hm] at hc hj
    rw [← hx] at hv
    have s1 : IntKind.i64.wrap ((k : Int) + 1 - 1) = (k : Int) := by rw [IntWalk.i64_in _ (by have := HN.out; omega)]; omega
    have k0 : (0 : Int) ≤ (k : Int) := by omega
    have kN : (k : Int) < (N : Int) := by have := HN.out; omega
    have j0 : (0 : Int) ≤ (j : Int) := by omega
    have jm : (j : Int) < (m : Int) := by omega
    have HX := Lib.hid hx
    have HIn := Lib.hid hin
    have E1 := Lib.hid e1
    have E2 := Lib.hid e2
    clear hx hin hd hm e1 e2 hk
    go_enter Try.func13, Try.ntmps13
    go_wp2_with fail
    refine TC.out.mono ?_
    rintro e w1 ⟨⟨b, rfl, hb⟩, rfl⟩
    obtain rfl : b = true := hb.2 HIn.out
    clear hb
    go_wp2
    refine bodyPost_ret (v := .tuple #[.int .i64 x, .int .i64 0]) (by simp [results, Try.results13, go_sem]) rfl ⟨x, 0, rfl, Keeps.refl _ _, .inl ⟨HIn.out, rfl, ?_⟩⟩
    rw [HX.out, ← E1.out, ← E2.out]
  · have HIn := Lib.hid hin
    clear hin
    go_enter Try.func13, Try.ntmps13
    go_wp2_with fail
    refine TC.out.mono ?_
    rintro e w1 ⟨⟨b, rfl, hb⟩, rfl⟩
    obtain rfl : b = false := by
      cases b with
      | false => rfl
      | true => exact absurd (hb.1 rfl) HIn.out
    clear hb
    go_wp2
    exact bodyPost_ret (v := .tuple #[.int .i64 0, .int .i64 2]) (by simp [results, Try.results13, go_sem]) rfl ⟨0, 2, rfl, Keeps.refl _ _, .inr ⟨HIn.out, rfl, rfl⟩⟩

theorem RowsIs.put {w : World} {S : Nat → Prop} {p g k j m cap : Nat} {v : Value} {rows : List Value} {L : List (List Int)} (H : RowsIs w S p v rows L) (hk : k < L.length) (hm : (L.getD k []).length = m) (hr : rows.getD k nilS = .slice (some ⟨g, 0, none⟩) m cap) (n : Int) :
    RowsIs (w.setCell ⟨g, j, none⟩ (.int .i64 n)) S p v rows (setL L k j n) ∧ Keeps S w (w.setCell ⟨g, j, none⟩ (.int .i64 n)) ∧ g ≠ p := by
  have hgb : (rows.getD k nilS).ownBlock = some g := by rw [hr]; rfl
  obtain ⟨s1, s2⟩ := H.rb k hk g hgb
  have hrow := H.row k hk
  refine ⟨⟨?_, fun b hb => H.vb b hb, fun i hi => ?_, fun i hi b hb => ?_, fun i i' hi hi' => ?_⟩, (Keeps.refl _ _).setCell (fun _ => s1) _, s2⟩
  · rw [setL_length]
    exact ownsRow_keep H.own fun b hb => Below.heap_setCell w _ _ b (fun e => own_ne H.own hrow hb hgb e.symm)
  · rw [setL_length] at hi
    by_cases hik : k = i
    · subst hik
      have hv : (setL L k j n).getD k [] = (L.getD k []).set j n := by rw [setL_getD, if_pos ⟨rfl, hk⟩]
      rw [hv, List.length_set, iv_set, hr, hm]
      rw [hr, hm] at hrow
      exact (hrow.stored j (.int .i64 n)).1
    · have hv : (setL L k j n).getD i [] = L.getD i [] := by rw [setL_getD, if_neg (fun h => hik h.1)]
      rw [hv]
      exact ownsRow_keep (H.row i hi) fun b hb => Below.heap_setCell w _ _ b (fun e => H.ne k i hk hi hik g hgb (by have e' : b = g := e; rw [← e']; exact hb))
  · rw [setL_length] at hi
    exact H.rb i hi b hb
  · rw [setL_length] at hi hi'
    exact H.ne i i' hi hi'

/-- What the document's Put leaves. -/
def RPut (S : Nat → Prop) (p : Nat) (L : List (List Int)) (a i n : Int) (w : World) (e : Ending) (w' : World) : Prop :=
  ∃ (t : Int) (L' : List (List Int)), e = .returned (.int .i64 t) ∧ RefIs w' S p L' ∧ Keeps S w w' ∧ ((InL L a i ∧ t = 0 ∧ L' = setL L (a.toNat - 1) i.toNat n) ∨ (¬ InL L a i ∧ t = 2 ∧ L' = L))

set_option maxRecDepth 100000 in
theorem rput_any (w : World) (S : Nat → Prop) (p : Nat) (L : List (List Int)) (H : RefIs w S p L) (hL : L.length ≤ 1000) (a i n : Int) :
    Calls Try.prog 15 #[.pointer (some ⟨p, 0, none⟩), .int .i64 a, .int .i64 i, .int .i64 n] w (RPut S p L a i n w) := by
  have TC := Lib.hid (there_any w S p L H hL a i)
  have HRef := Lib.hid H
  obtain ⟨v, rows, c0, fz, hp, hS, H⟩ := H
  obtain ⟨A, c, rfl⟩ := H.form
  obtain ⟨N, hN⟩ : ∃ N : Nat, N = L.length := ⟨_, rfl⟩
  by_cases hin : InL L a i
  · obtain ⟨k, j, rfl, rfl, hk, hj, e1, e2⟩ := hin.parts
    have hrow := H.row k hk
    obtain ⟨g2, c2, hr⟩ : ∃ g2 c2, rows.getD k nilS = .slice (some ⟨g2, 0, none⟩) (L.getD k []).length c2 := by
      rcases hrow.2 with ⟨_, h0⟩ | ⟨g, cap, cur, e, _⟩
      · omega
      · exact ⟨g, cap, e⟩
    have hput := H.put (j := j) hk rfl hr n
    have hfz : w.frozen? ⟨g2, j, none⟩ = false := by rw [hr] at hrow; exact hrow.frozenAt j
    have hcell : w.cell? ⟨g2, j, none⟩ = some (.int .i64 ((L.getD k []).getD j 0)) := by rw [hr] at hrow; rw [hrow.cellAt j (by omega), iv_at hj]
    obtain ⟨g, hA, hc⟩ : ∃ g, A = some ⟨g, 0, none⟩ ∧ w.cell? ⟨g, k, none⟩ = some (.slice (some ⟨g2, 0, none⟩) (L.getD k []).length c2) := by
      have hrl : rows.length = L.length := by have := H.own.1; omega
      rcases H.own.2 with ⟨_, h0⟩ | ⟨g, cap, cur, hv, _⟩
      · omega
      · simp only [Value.slice.injEq] at hv
        obtain ⟨rfl, _, rfl⟩ := hv
        refine ⟨g, rfl, ?_⟩
        rw [H.own.cellAt k (by omega), ← hr, List.getD_eq_getElem?_getD, List.getElem?_eq_getElem (by omega)]
        rfl
    subst hA
    obtain ⟨m, hm⟩ : ∃ m : Nat, m = (L.getD k []).length := ⟨_, rfl⟩
    rw [← hm] at hc hj
    rw [← hN] at c0 hL
    have hc0' : (w.setCell ⟨g2, j, none⟩ (.int .i64 n)).cell? ⟨p, 0, none⟩ = some (.slice (some ⟨g, 0, none⟩) N c) := (World.cell?_setCell_far w ⟨g2, j, none⟩ ⟨p, 0, none⟩ _ hput.2.2).trans c0
    have HFin : Hid (RefIs (w.setCell ⟨g2, j, none⟩ (.int .i64 n)) S p (setL L k j n)) := ⟨.slice (some ⟨g, 0, none⟩) N c, rows, hc0', fun q => by rw [World.frozen?_setCell]; exact fz q, by simpa using hp, hS, by rw [hN]; exact hput.1⟩
    have HK := Lib.hid hput.2.1
    have s1 : IntKind.i64.wrap ((k : Int) + 1 - 1) = (k : Int) := by rw [IntWalk.i64_in _ (by omega)]; omega
    have k0 : (0 : Int) ≤ (k : Int) := by omega
    have kN : (k : Int) < (N : Int) := by omega
    have j0 : (0 : Int) ≤ (j : Int) := by omega
    have jm : (j : Int) < (m : Int) := by omega
    have HIn := Lib.hid hin
    have E1 := Lib.hid e1
    have E2 := Lib.hid e2
    clear hin hm e1 e2 hk hr hrow hput H hN fz hS hc0'
    go_enter Try.func15, Try.ntmps15
    go_wp2_with fail
    refine TC.out.mono ?_
    rintro e w1 ⟨⟨b, rfl, hb⟩, rfl⟩
    obtain rfl : b = true := hb.2 HIn.out
    clear hb
    go_wp2
    go_ret
    refine ⟨0, _, rfl, HFin.out, HK.out, .inl ⟨HIn.out, rfl, ?_⟩⟩
    rw [← E1.out, ← E2.out]
  · have HIn := Lib.hid hin
    clear hin H hN fz hS c0
    go_enter Try.func15, Try.ntmps15
    go_wp2_with fail
    refine TC.out.mono ?_
    rintro e w1 ⟨⟨b, rfl, hb⟩, rfl⟩
    obtain rfl : b = false := by
      cases b with
      | false => rfl
      | true => exact absurd (hb.1 rfl) HIn.out
    clear hb
    go_wp2
    go_ret
    exact ⟨2, L, rfl, HRef.out, Keeps.refl _ _, .inr ⟨HIn.out, rfl, rfl⟩⟩

/-- What the document's Make leaves, of whatever number. -/
def RMadeAny (S : Nat → Prop) (p : Nat) (L : List (List Int)) (n : Int) (w : World) (e : Ending) (w' : World) : Prop :=
  ∃ (x t : Int) (L' : List (List Int)), e = .returned (.tuple #[.int .i64 x, .int .i64 t]) ∧ RefIs w' (fun k => S k ∨ (w.heap.size ≤ k ∧ k < w'.heap.size)) p L' ∧ Keeps S w w' ∧
    (((n < 0 ∨ 16 < n) ∧ x = 0 ∧ t = 7 ∧ L' = L) ∨ (0 ≤ n ∧ n ≤ 16 ∧ ¬ Fits L n ∧ x = 0 ∧ t = 4 ∧ L' = L) ∨ (0 ≤ n ∧ n ≤ 16 ∧ Fits L n ∧ x = (L.length : Int) + 1 ∧ t = 0 ∧ L' = L ++ [List.replicate n.toNat 0]))

theorem rmake_any (w : World) (S : Nat → Prop) (p : Nat) (L : List (List Int)) (H : RefIs w S p L) (hL : L.length ≤ 1000) (hc : L.flatten.length ≤ 1000) (n : Int) :
    Calls Try.prog 11 #[.pointer (some ⟨p, 0, none⟩), .int .i64 n] w (RMadeAny S p L n w) := by
  by_cases h0 : n < 0
  · refine (rmake_low w p n h0).mono ?_
    rintro e w' ⟨h1, h2⟩
    subst h2
    exact ⟨0, 7, L, h1, H.wider fun k _ h => .inl h, Keeps.refl _ _, .inl ⟨.inl h0, rfl, rfl, rfl⟩⟩
  by_cases h1 : 16 < n
  · refine (rmake_high w p n h0 h1).mono ?_
    rintro e w' ⟨h2, h3⟩
    subst h3
    exact ⟨0, 7, L, h2, H.wider fun k _ h => .inl h, Keeps.refl _ _, .inl ⟨.inr h1, rfl, rfl, rfl⟩⟩
  obtain ⟨m, rfl⟩ : ∃ m : Nat, n = (m : Int) := ⟨n.toNat, by omega⟩
  by_cases hf : Fits L (m : Int)
  · refine (rmake_fits w S p L H m (by omega) (by unfold Fits at hf; omega)).mono ?_
    rintro e w' ⟨h2, h3, h4⟩
    exact ⟨_, 0, _, h2, h3, h4, .inr (.inr ⟨by omega, by omega, hf, rfl, rfl, rfl⟩)⟩
  · refine (rmake_full w S p L H hL hc m (by omega) (by unfold Fits at hf; omega)).mono ?_
    rintro e w' ⟨h2, h3⟩
    subst h3
    exact ⟨0, 4, L, h2, H.wider fun k _ h => .inl h, Keeps.refl _ _, .inr (.inl ⟨by omega, by omega, hf, rfl, rfl, rfl⟩)⟩

end Go.Proofs.Ytpighdioomjnmaa
