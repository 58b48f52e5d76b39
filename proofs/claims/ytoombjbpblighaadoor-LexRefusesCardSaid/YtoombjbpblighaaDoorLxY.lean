/-
  Layer 1: the walk of LexRefuses. Written by an AI agent.
-/
import Derived.Test.YtoombjbpblighaaDoorLxYa
namespace Go.Proofs.YtoombjbpblighaaDoor
open Go.RowKit Go.Shelf
set_option linter.unusedVariables false
set_option linter.unusedSimpArgs false

/-- How All may end. -/
def EndsL (s : ByteArray) (q er : Nat) : Prop := er = 0 ∨ (er = 4 ∧ 600 < s.size) ∨ (q < s.size ∧ s.size ≤ 600 ∧ (lexL (s.data.toList.take q) 0).2 = none ∧ (er = 10 ∨ er = 11 ∨ er = 12 ∨ er = 13 ∨ er = 4))
theorem all_ends (s : ByteArray) (hs : s.size ≤ 700) (w : World) (he : ErrW w) :
    Calls Tryd.prog 17 #[.string s] w fun e w' => (∃ A n c q er, e = .returned (.tuple #[.slice A n c, .int .i64 ((q : Nat) : Int), .int .i64 ((er : Nat) : Int)]) ∧ EndsL s q er) ∧ Keeps (fun _ => False) w w' := by
  by_cases hb : 600 < s.size
  · exact (all_big s hb (by omega) w he).mono fun e w' ⟨h, k⟩ => ⟨⟨none, 0, 0, 0, 4, h, .inr (.inl ⟨rfl, hb⟩)⟩, k⟩
  · cases hl : (lexL s.data.toList 0).2 with
    | none =>
      exact (all_ok s (by omega) (lexL s.data.toList 0).1 (by rw [← hl]) w he).mono fun e w' ⟨A, c, h, _, k⟩ => ⟨⟨A, _, c, 0, 0, h, .inl rfl⟩, k⟩
    | some qe =>
      obtain ⟨q, er⟩ := qe
      have hc := lexL_cut s.data.toList 0 q er hl
      rw [Nat.sub_zero, Nat.zero_add, len_size] at hc
      exact (all_bad s (by omega) q er hl w he).mono fun e w' ⟨h, k⟩ => ⟨⟨none, 0, 0, q, er, h, .inr (.inr ⟨hc.2.1, by omega, hc.2.2.1, hc.2.2.2⟩)⟩, k⟩
theorem all_ahead (s : ByteArray) (hs : s.size ≤ 600) (q : Nat) (hq : q < s.size) (h : (lexL (s.data.toList.take q) 0).2 = none) (w : World) (he : ErrW w) :
    Calls Tryd.prog 17 #[.string (s.extract 0 q)] w fun e w' => (∃ A n c, e = .returned (.tuple #[.slice A n c, .int .i64 0, .int .i64 0])) ∧ Keeps (fun _ => False) w w' :=
  (all_ok (s.extract 0 q) (by rw [ext_size s q (by omega)]; omega) (lexL (s.data.toList.take q) 0).1 (by rw [ext_take, ← h]) w he).mono fun e w' ⟨A, c, h, _, k⟩ => ⟨⟨A, _, c, h⟩, k⟩

set_option maxRecDepth 100000 in
set_option maxHeartbeats 8000000 in
theorem refuses_walk (s0 : ByteArray) (a : Int) (ha0 : -9223372036854775808 ≤ a) (ha1 : a < 9223372036854775808) (w : World) (he : ErrW w) :
    Calls Tryd.prog 6 #[.string s0, .int .i64 a] w fun e w' => e = .returned (.bool true) ∧ Keeps (fun _ => False) w w' := by
  have SC := Lib.hid (shown_any w he)
  have HC := Lib.hid (fun w => short_any s0 w)
  have HE := Lib.hid he
  clear he
  go_enter Tryd.func6, Tryd.ntmps6
  go_wp2_with fail
  refine SC.out.mono ?_
  rintro e w1 ⟨rfl, k1⟩
  have HE1 := Lib.hid (HE.out.keep k1)
  have K1 := Lib.hid k1
  have HC1 := Lib.hid (HC.out w1)
  clear k1 SC HE HC
  go_wp2_with fail
  refine HC1.out.mono ?_
  rintro e w2 ⟨⟨s, hs, rfl⟩, hw⟩
  obtain rfl : w1 = w2 := hw.symm
  have AC := Lib.hid (all_ends s hs w1 HE1.out)
  clear hw HC1
  go_wp2_with fail
  refine AC.out.mono ?_
  rintro e w2 ⟨⟨A, n, c, q, er, rfl, hq⟩, k2⟩
  have HQ := Lib.hid hq
  have K2 := Lib.hid (K1.out.trans k2 (fun _ _ h => h))
  have HE2 := Lib.hid (HE1.out.keep k2)
  obtain ⟨l, hl⟩ : ∃ l : List UInt8, l = s.data.toList := ⟨_, rfl⟩
  have LC : Hid (∀ a, Calls Tryd.prog 20 #[.string s, .int .i64 a] w2 fun e w' => e = .returned (.int .i64 (lineL l a : Nat)) ∧ w' = w2) := by
    rw [hl]
    exact Lib.hid fun a => line_any s (by omega) a w2
  have HL := Lib.hid hl
  obtain ⟨u, hu⟩ : ∃ u : Int, u = wrap64 (a + 1) := ⟨_, rfl⟩
  have LA := Lib.hid (LC.out a)
  have LU := Lib.hid (LC.out u)
  have LZ := Lib.hid (LC.out 0)
  have hz := line_zero l
  have hn1 := line_pos l a
  have hm1 := line_le l u
  have hn2 := line_le l a
  have hlen : l.length ≤ 700 := by rw [hl, len_size]; exact hs
  have hmn : a < 1099511627776 → -1099511627776 < a → lineL l u = lineL l a + stepL l a := fun h1 h2 => by
    rw [hu, show wrap64 (a + 1) = a + 1 by unfold wrap64; omega]
    exact line_next l a
  have LZ : Hid (Calls Tryd.prog 20 #[.string s, .int .i64 0] w2 fun e w' => e = .returned (.int .i64 1) ∧ w' = w2) := by rw [hz] at LZ; exact LZ
  obtain ⟨N, hN⟩ : ∃ N, N = lineL l a := ⟨_, rfl⟩
  obtain ⟨M, hM⟩ : ∃ M, M = lineL l u := ⟨_, rfl⟩
  rw [← hN] at LA hn1 hn2 hmn
  rw [← hM] at LU hm1 hmn
  have HMN := Lib.hid hmn
  have HU := Lib.hid hu
  clear hl hq k2 AC LC hz hN hM hmn hu
  go_wp2_with fail
  refine LA.out.mono ?_
  rintro e w3 ⟨rfl, hw⟩
  obtain rfl : w2 = w3 := hw.symm
  clear hw LA
  go_wp2_with fail
  rw [← HU.out]
  refine LU.out.mono ?_
  rintro e w3 ⟨rfl, hw⟩
  obtain rfl : w2 = w3 := hw.symm
  clear hw LU
  go_upto_region 7 with fail
  go_cut [44] (fun s44 wx => s44 = .bool (decide (stepL l a = 1)) ∧ wx = w2)
  case first =>
    by_cases h0 : 0 ≤ a
    · by_cases h1 : a < (s.size : Int)
      · obtain ⟨k, rfl⟩ := Int.eq_ofNat_of_zero_le h0
        have hk : k < s.size := by omega
        have hc := at_byte s k hk
        rw [← HL.out] at hc
        have d0 : decide ((0 : Int) ≤ (k : Int)) = true := decide_eq_true h0
        have d1 : decide ((k : Int) < (s.size : Int)) = true := decide_eq_true h1
        have hst : stepL l (k : Int) = if s[k].toNat = 10 then 1 else 0 := by
          unfold stepL
          rw [show ((k : Int)).toNat = k from rfl, hc]
          by_cases h10 : s[k].toNat = 10
          · rw [if_pos h10, if_pos ⟨h0, by rw [show s[k] = 10 from UInt8.toNat_inj.1 h10]⟩]
          · rw [if_neg h10, if_neg]
            rintro ⟨_, e⟩
            rw [Option.some.inj e] at h10
            exact h10 rfl
        by_cases h10 : s[k].toNat = 10
        · have q10 : ((s[k].toNat : Int) == 10) = true := by rw [h10]; rfl
          have HS := Lib.hid (show decide (stepL l (k : Int) = 1) = true by rw [hst, if_pos h10]; rfl)
          clear hc hst h10
          go_wp2
          go_meet
          exact ⟨by rw [HS.out], rfl⟩
        · have q10 : ((s[k].toNat : Int) == 10) = false := by simp; omega
          have HS := Lib.hid (show decide (stepL l (k : Int) = 1) = false by rw [hst, if_neg h10]; rfl)
          clear hc hst h10
          go_wp2
          go_meet
          exact ⟨by rw [HS.out], rfl⟩
      · have d0 : decide ((0 : Int) ≤ a) = true := decide_eq_true h0
        have d1 : decide (a < (s.size : Int)) = false := decide_eq_false h1
        have HS := Lib.hid (show decide (stepL l a = 1) = false by
          have : stepL l a = 0 := by
            unfold stepL
            rw [if_neg]
            rintro ⟨_, e⟩
            have := (List.getElem?_eq_some_iff.1 e).1
            rw [HL.out, len_size] at this
            omega
          rw [this]; rfl)
        go_wp2
        go_meet
        exact ⟨by rw [HS.out], rfl⟩
    · have d0 : decide ((0 : Int) ≤ a) = false := decide_eq_false h0
      have HS := Lib.hid (show decide (stepL l a = 1) = false by
        have : stepL l a = 0 := by unfold stepL; rw [if_neg (fun h => h0 h.1)]
        rw [this]; rfl)
      go_wp2
      go_meet
      exact ⟨by rw [HS.out], rfl⟩
  case rest =>
    obtain ⟨rfl, hw⟩ := hcut
    obtain rfl : w2 = wc := hw.symm
    clear hw
    have h01 : stepL l a = 0 ∨ stepL l a = 1 := by unfold stepL; split <;> omega
    obtain ⟨st, hst⟩ : ∃ st, st = stepL l a := ⟨_, rfl⟩
    have HMN2 : Hid (a < 1099511627776 → -1099511627776 < a → M = N + st) := by rw [hst]; exact HMN
    rw [← hst] at h01 ⊢
    clear hst HMN
    go_upto_if 44 with fail
    go_cut [11] (fun s11 wx => s11 = .int .i64 (st : Int) ∧ wx = w2)
    case first =>
      rcases h01 with rfl | rfl
      · go_wp2
        go_meet
        exact ⟨rfl, rfl⟩
      · go_wp2
        go_meet
        exact ⟨rfl, rfl⟩
    case rest =>
      obtain ⟨rfl, hw⟩ := hcut
      obtain rfl : w2 = wc := hw.symm
      clear hw
      go_upto_region 9 with fail
      go_cut [66] (fun s66 wx => s66 = .bool false ∧ wx = w2)
      case first =>
        have hN0 : ¬ (N : Int) < 1 := by omega
        have dN : decide ((N : Int) < 1) = false := decide_eq_false hN0
        have hN9 : N ≤ 701 := by omega
        have sw : IntKind.i64.wrap ((N : Int) + (st : Int)) = (N : Int) + (st : Int) := IntWalk.i64_in _ (by omega)
        by_cases b1 : a < 1099511627776
        · have d1 : decide (a < 1099511627776) = true := decide_eq_true b1
          by_cases b2 : -1099511627776 < a
          · have d2 : decide (-1099511627776 < a) = true := decide_eq_true b2
            have q1 : ((M : Int) != (N : Int) + (st : Int)) = false := by have := HMN2.out b1 b2; simp; omega
            go_wp2_with fail
            refine LZ.out.mono ?_
            rintro e w3 ⟨rfl, hw⟩
            obtain rfl : w2 = w3 := hw.symm
            clear hw LZ
            go_wp2
            go_meet
            exact ⟨rfl, rfl⟩
          · have d2 : decide (-1099511627776 < a) = false := decide_eq_false b2
            go_wp2_with fail
            refine LZ.out.mono ?_
            rintro e w3 ⟨rfl, hw⟩
            obtain rfl : w2 = w3 := hw.symm
            clear hw LZ
            go_wp2
            go_meet
            exact ⟨rfl, rfl⟩
        · have d1 : decide (a < 1099511627776) = false := decide_eq_false b1
          go_wp2_with fail
          refine LZ.out.mono ?_
          rintro e w3 ⟨rfl, hw⟩
          obtain rfl : w2 = w3 := hw.symm
          clear hw LZ
          go_wp2
          go_meet
          exact ⟨rfl, rfl⟩
      case rest =>
        obtain ⟨rfl, hw⟩ := hcut
        obtain rfl : w2 = wc := hw.symm
        clear hw LZ HMN2
        have hq := HQ.out
        rcases hq with rfl | ⟨rfl, hb⟩ | ⟨hq, hs6, hno, her⟩
        · go_wp2
          go_ret
          exact ⟨rfl, K2.out⟩
        · have hbI : (600 : Int) < (s.size : Int) := by omega
          have hbd : decide ((600 : Int) < (s.size : Int)) = true := decide_eq_true hbI
          go_wp2
          go_ret
          exact ⟨rfl, K2.out⟩
        · have XC := Lib.hid (all_ahead s hs6 q hq hno w2 HE2.out)
          have hbI : ¬ (600 : Int) < (s.size : Int) := by omega
          have hbd : decide ((600 : Int) < (s.size : Int)) = false := decide_eq_false hbI
          have hqI : (q : Int) < (s.size : Int) := by omega
          have hqI2 : (q : Int) ≤ (s.size : Int) := by omega
          have hqd : decide ((q : Int) < (s.size : Int)) = true := decide_eq_true hqI
          have hq0 : (0 : Int) ≤ (q : Int) := by omega
          clear hno hq
          rcases her with rfl | rfl | rfl | rfl | rfl
          · go_wp2_with fail
            refine XC.out.mono ?_
            rintro e w3 ⟨⟨A3, n3, c3, rfl⟩, k3⟩
            have K3 := Lib.hid (K2.out.trans k3 (fun _ _ h => h))
            clear k3 XC
            go_wp2
            go_ret
            exact ⟨rfl, K3.out⟩
          · go_wp2_with fail
            refine XC.out.mono ?_
            rintro e w3 ⟨⟨A3, n3, c3, rfl⟩, k3⟩
            have K3 := Lib.hid (K2.out.trans k3 (fun _ _ h => h))
            clear k3 XC
            go_wp2
            go_ret
            exact ⟨rfl, K3.out⟩
          · go_wp2_with fail
            refine XC.out.mono ?_
            rintro e w3 ⟨⟨A3, n3, c3, rfl⟩, k3⟩
            have K3 := Lib.hid (K2.out.trans k3 (fun _ _ h => h))
            clear k3 XC
            go_wp2
            go_ret
            exact ⟨rfl, K3.out⟩
          · go_wp2_with fail
            refine XC.out.mono ?_
            rintro e w3 ⟨⟨A3, n3, c3, rfl⟩, k3⟩
            have K3 := Lib.hid (K2.out.trans k3 (fun _ _ h => h))
            clear k3 XC
            go_wp2
            go_ret
            exact ⟨rfl, K3.out⟩
          · go_wp2_with fail
            refine XC.out.mono ?_
            rintro e w3 ⟨⟨A3, n3, c3, rfl⟩, k3⟩
            have K3 := Lib.hid (K2.out.trans k3 (fun _ _ h => h))
            clear k3 XC
            go_wp2
            go_ret
            exact ⟨rfl, K3.out⟩

end Go.Proofs.YtoombjbpblighaaDoor
