/-
  Layer 8: the document's reader of bytes. Written by an AI agent.
-/
import Derived.Test.YtoombjbpblighaaDoorRcC
namespace Go.Proofs.YtoombjbpblighaaDoor
open Go Go.RowKit Go.Shelf
set_option linter.unusedVariables false
set_option linter.unusedSimpArgs false

set_option maxRecDepth 100000 in
set_option maxHeartbeats 4000000 in
/-- corrupt. -/
theorem corrupt_any (R : Nat) (b : Bool) (s : RS) (w : World) (h : Rdr w R s) : Calls Tryd.prog 56 #[.pointer (some ⟨R, 0, none⟩), .bool b] w fun e w' => e = .returned (.tuple #[]) ∧ Rdr w' R (needE b s) ∧ Keeps (fun p => p = R) w w' := by
  obtain ⟨A, c, h⟩ := h
  have H := Lib.hid h
  obtain ⟨c0, c1, f0, f1, hb, hc, hm, ok⟩ := h
  have hR := cell_ltk c0
  clear hb hc hm ok
  obtain ⟨l, e⟩ := s
  have c1 : w.cell? ⟨R, 1, none⟩ = some (.int .i64 (e : Int)) := c1
  by_cases h0 : e = 0
  · subst h0
    cases b
    · go_enter Tryd.func56, Tryd.ntmps56
      go_wp2
      go_end0
      exact ⟨rfl, ⟨A, c, (H.out.setE 3).1⟩, (H.out.setE 3).2⟩
    · go_enter Tryd.func56, Tryd.ntmps56
      go_wp2
      go_end0
      exact ⟨rfl, ⟨A, c, H.out⟩, Keeps.refl _ _⟩
  · have h1 : ¬ (e : Int) = 0 := by omega
    have h2 : decide ((e : Int) = 0) = false := decide_eq_false h1
    have E : needE b ⟨l, e⟩ = ⟨l, e⟩ := if_neg (fun h => h0 h.1)
    rw [E]
    clear E
    go_enter Tryd.func56, Tryd.ntmps56
    go_wp2
    all_goals (go_end0; exact ⟨rfl, ⟨A, c, H.out⟩, Keeps.refl _ _⟩)

set_option maxRecDepth 100000 in
set_option maxHeartbeats 8000000 in
/-- some. -/
theorem some_any (R : Nat) (n : Nat) (s : RS) (hn : n ≤ 1000000000) (w : World) (h : Rdr w R s) : Calls Tryd.prog 84 #[.pointer (some ⟨R, 0, none⟩), .int .i64 n] w fun e w' => (∃ v, e = .returned v ∧ Takes w' R v (takeE n s).2) ∧ Rdr w' R (takeE n s).1 ∧ Keeps (fun p => p = R) w w' := by
  obtain ⟨A, c, h⟩ := h
  have H := Lib.hid h
  obtain ⟨c0, c1, f0, f1, hb, hc, hm, ok⟩ := h
  have hR := cell_ltk c0
  clear hb ok
  obtain ⟨l, e⟩ := s
  have c0 : w.cell? ⟨R, 0, none⟩ = some (.slice A l.length c) := c0
  have c1 : w.cell? ⟨R, 1, none⟩ = some (.int .i64 (e : Int)) := c1
  have hc : l.length ≤ c := hc
  obtain ⟨N, hN⟩ : ∃ N, N = l.length := ⟨_, rfl⟩
  rw [← hN] at c0 hc
  have HN := Lib.hid hN
  clear hN
  by_cases h0 : e = 0
  · subst h0
    by_cases h1 : N < n
    · have h1I : (N : Int) < (n : Int) := by omega
      have h1d : decide ((N : Int) < (n : Int)) = true := decide_eq_true h1I
      have E : Hid (takeE n ⟨l, 0⟩ = (⟨l, 2⟩, [])) := Lib.hid (by unfold takeE; rw [if_pos rfl, if_pos (by rw [← HN.out]; exact h1)])
      go_enter Tryd.func84, Tryd.ntmps84
      go_wp2
      go_ret
      rw [E.out]
      exact ⟨⟨_, rfl, none, 0, rfl, RdB.nil _ _ _⟩, ⟨A, c, (H.out.setE 2).1⟩, (H.out.setE 2).2⟩
    · have h1I : ¬ (N : Int) < (n : Int) := by omega
      have h1d : decide ((N : Int) < (n : Int)) = false := decide_eq_false h1I
      have E : Hid (takeE n ⟨l, 0⟩ = (⟨l.drop n, 0⟩, l.take n)) := Lib.hid (by unfold takeE; rw [if_pos rfl, if_neg (by rw [← HN.out]; exact h1)])
      have b0 : (0 : Int) ≤ (n : Int) := by omega
      have b1 : (n : Int) ≤ (N : Int) := by omega
      have b2 : (n : Int) ≤ (c : Int) := by omega
      have tl : Hid ((l.take n).length = n) := Lib.hid (by rw [List.length_take, ← HN.out]; omega)
      by_cases hcn : c = n
      · go_enter Tryd.func84, Tryd.ntmps84
        go_wp2
        go_ret
        rw [E.out]
        have hl : l.length = c := by have := HN.out; omega
        have F := H.out.setL n (by show n ≤ l.length; rw [← HN.out]; omega) A (.inl (List.drop_eq_nil_of_le (by show l.length ≤ n; omega)))
        have e1 : (⟨l, 0⟩ : RS).l.length - n = N - n := by rw [HN.out]
        have e2 : c - n = 0 := by omega
        rw [e1, e2] at F
        have tk : Takes (w.setCell ⟨R, 0, none⟩ (.slice A (N - n) 0)) R (.slice A n n) (l.take n) := ⟨A, n, by rw [tl.out], (H.out.hb.take n).keep F.2⟩
        exact ⟨⟨_, rfl, tk⟩, ⟨_, _, F.1⟩, F.2⟩
      · go_enter Tryd.func84, Tryd.ntmps84
        go_wp2
        go_ret
        rw [E.out]
        have F := H.out.setL n (by show n ≤ l.length; rw [← HN.out]; omega) _ (.inr rfl)
        have e1 : (⟨l, 0⟩ : RS).l.length - n = N - n := by rw [HN.out]
        rw [e1] at F
        have tk : Takes (w.setCell ⟨R, 0, none⟩ (.slice (Option.map (fun x => x.add n) A) (N - n) (c - n))) R (.slice A n c) (l.take n) := ⟨A, c, by rw [tl.out], (H.out.hb.take n).keep F.2⟩
        exact ⟨⟨_, rfl, tk⟩, ⟨_, _, F.1⟩, F.2⟩
  · have h1 : ¬ (e : Int) = 0 := by omega
    have h2 : decide ((e : Int) = 0) = false := decide_eq_false h1
    have E : Hid (takeE n ⟨l, e⟩ = (⟨l, e⟩, [])) := Lib.hid (if_neg h0)
    go_enter Tryd.func84, Tryd.ntmps84
    go_wp2
    go_ret
    rw [E.out]
    exact ⟨⟨_, rfl, none, 0, rfl, RdB.nil _ _ _⟩, ⟨A, c, H.out⟩, Keeps.refl _ _⟩

set_option maxRecDepth 100000 in
set_option maxHeartbeats 8000000 in
/-- one. -/
theorem rone_any (R : Nat) (s : RS) (w : World) (h : Rdr w R s) : Calls Tryd.prog 55 #[.pointer (some ⟨R, 0, none⟩)] w fun e w' => e = .returned (.int .i64 (oneE s).2) ∧ Rdr w' R (oneE s).1 ∧ Keeps (fun p => p = R) w w' := by
  obtain ⟨L, hL⟩ : ∃ L, L = (takeE 1 s).2 := ⟨_, rfl⟩
  obtain ⟨s', hs⟩ : ∃ s', s' = (takeE 1 s).1 := ⟨_, rfl⟩
  have hok : ∀ x ∈ L, 0 ≤ x ∧ x < 256 := by obtain ⟨A, c, h⟩ := h; rw [hL]; exact takeE_ok _ _ h.ok
  have hlen : L.length ≤ 1 := by rw [hL]; exact takeE_len _ _
  have B := some_any R 1 s (by omega) w h
  unfold oneE
  rw [← hL, ← hs] at B ⊢
  have B := Lib.hid B
  clear hL hs
  match L, hlen with
  | [], _ =>
    go_enter Tryd.func55, Tryd.ntmps55
    go_wp2_with fail
    refine B.out.mono ?_
    rintro e w1 ⟨⟨v, rfl, X, c, rfl, hx⟩, hr, hk⟩
    have HR := Lib.hid hr
    have HK := Lib.hid hk
    have e0 : ([] : List Int).length = 0 := rfl
    rw [e0]
    clear hx hr hk e0
    go_wp2
    go_ret
    exact ⟨rfl, HR.out, HK.out⟩
  | [x], _ =>
    have hxb := hok x (by simp)
    obtain ⟨hx0, hx1⟩ := hxb
    go_enter Tryd.func55, Tryd.ntmps55
    go_wp2_with fail
    refine B.out.mono ?_
    rintro e w1 ⟨⟨v, rfl, X, c, rfl, hx⟩, hr, hk⟩
    obtain ⟨b, off, rfl, hne, hc⟩ := hx (by simp)
    have hck := hc 0 (by simp)
    have e1 : ([x] : List Int).getD 0 0 = x := rfl
    rw [e1, Nat.add_zero] at hck
    have HR := Lib.hid hr
    have HK := Lib.hid hk
    have e0 : ([x] : List Int).length = 1 := rfl
    rw [e0]
    clear hx hr hk e0 hc e1
    go_wp2
    go_ret
    exact ⟨rfl, HR.out, HK.out⟩

set_option maxRecDepth 100000 in
set_option maxHeartbeats 8000000 in
/-- number. -/
theorem rnumb_any (R : Nat) (s : RS) (w : World) (h : Rdr w R s) : Calls Tryd.prog 57 #[.pointer (some ⟨R, 0, none⟩)] w fun e w' => e = .returned (.int .i64 (numE s).2) ∧ Rdr w' R (numE s).1 ∧ Keeps (fun p => p = R) w w' := by
  obtain ⟨L, hL⟩ : ∃ L, L = (takeE 8 s).2 := ⟨_, rfl⟩
  obtain ⟨s', hs⟩ : ∃ s', s' = (takeE 8 s).1 := ⟨_, rfl⟩
  have hok : ∀ x ∈ L, 0 ≤ x ∧ x < 256 := by obtain ⟨A, c, h⟩ := h; rw [hL]; exact takeE_ok _ _ h.ok
  have hlen : L.length ≤ 8 := by rw [hL]; exact takeE_len _ _
  have B := some_any R 8 s (by omega) w h
  unfold numE
  rw [← hL, ← hs] at B ⊢
  have B := Lib.hid B
  clear hL hs
  go_enter Tryd.func57, Tryd.ntmps57
  go_wp2_with fail
  refine B.out.mono ?_
  rintro e w1 ⟨⟨v, rfl, X, c, rfl, hx⟩, hr, hk⟩
  have HX := Lib.hid hx
  have HR := Lib.hid hr
  have HK := Lib.hid hk
  obtain ⟨m, hm⟩ : ∃ m, m = L.length := ⟨_, rfl⟩
  rw [← hm]
  have HM := Lib.hid hm
  have hm8 : m ≤ 8 := by omega
  clear hx hr hk hm
  go_wp2_with fail
  go_loopw [4, 5] (fun s4 s5 wr => ∃ k : Nat, k ≤ m ∧ s5 = .int .i64 k ∧ s4 = .int .u64 (numF (L.take k)) ∧ wr = w1) (fun _ s5 _ => m - (intOf s5).toNat)
  case atStart => exact ⟨0, Nat.zero_le _, rfl, rfl, rfl⟩
  case round =>
    obtain ⟨k, hkm, rfl, rfl, rfl⟩ := hrel
    by_cases h1 : k < m
    · have h1I : (k : Int) < (m : Int) := by omega
      have h1d : decide ((k : Int) < (m : Int)) = true := decide_eq_true h1I
      obtain ⟨b, off, rfl, hne, hc⟩ := HX.out (by rw [← HM.out]; omega)
      have hck := hc k (by rw [← HM.out]; omega)
      have hg := hok (L.getD k 0) (by rw [List.getD_eq_getElem?_getD, List.getElem?_eq_getElem (by rw [← HM.out]; exact h1)]; exact List.getElem_mem _)
      obtain ⟨z, hz⟩ : ∃ z, z = L.getD k 0 := ⟨_, rfl⟩
      rw [← hz] at hck hg
      have HZ := Lib.hid hz
      have hs : Hid (numF (L.take (k + 1)) = numF (L.take k) * 256 + z) := Lib.hid (by rw [take_snoc L k (by rw [← HM.out]; exact h1), numF_snoc, hz])
      have h0z := hg.1
      obtain ⟨nf, hnf⟩ : ∃ nf, nf = numF (L.take k) := ⟨_, rfl⟩
      have hb := numF_bound (L.take k) (fun x hx => hok x (List.mem_of_mem_take hx))
      have hp : (256 : Int) ^ (L.take k).length ≤ 256 ^ 7 := by
        have h7 : (L.take k).length ≤ 7 := by rw [List.length_take]; omega
        have := Nat.pow_le_pow_right (n := 256) (by omega) h7
        exact_mod_cast this
      have h8 : (256 : Int) ^ 7 = 72057594037927936 := by decide
      rw [← hnf] at hb hs
      have hb0 := hb.1
      have hb1 : nf < 72057594037927936 := by omega
      have HW : Hid (IntKind.u64.wrap (IntKind.u64.wrap (nf * 256) + z) = nf * 256 + z ∧ IntKind.u64.wrap (nf * 256 + z) = nf * 256 + z) := Lib.hid (by rw [IntKind.wrap_u64, IntKind.wrap_u64, IntKind.wrap_u64]; omega)
      rw [← hnf]
      clear hb hp h8 hnf
      have h1z := hg.2
      clear hz hc
      go_wp2
      refine ⟨⟨k + 1, by omega, by go_num, ?_, trivial⟩, by simp [intOf]; omega⟩
      rw [hs.out]
    · have h1I : ¬ (k : Int) < (m : Int) := by omega
      have h1d : decide ((k : Int) < (m : Int)) = false := decide_eq_false h1I
      have hE : Hid (numF L = numF (L.take k)) := Lib.hid (by rw [List.take_of_length_le (by rw [← HM.out]; omega)])
      go_wp2
      go_ret
      rw [hE.out]
      exact ⟨rfl, HR.out, HK.out⟩

end Go.Proofs.YtoombjbpblighaaDoor
