/-
  Layer 1: the walk of LexNumbers. Written by an AI agent.
-/
import Derived.Test.YtoombjbpblighaaDoorLxUa
namespace Go.Proofs.YtoombjbpblighaaDoor
open Go.RowKit Go.Shelf
set_option linter.unusedVariables false
set_option linter.unusedSimpArgs false

/-- What All tells of a number and a sign. -/
theorem num_lex {n : Nat} {s : ByteArray} (h : Num n s) (hn : n ≤ 9223372036854775807) : lexL (s ++ { data := #[59] }).data.toList 0 =
    if s.size ≤ 19 then ([⟨1, s.data.toList, 0⟩, ⟨5, [59], s.size⟩, ⟨0, [], s.size + 1⟩], none) else ([], some (0, 12)) := by
  have hp := h.pos
  rw [← len_size] at hp ⊢
  have hall := h.all
  have hv := h.val
  rw [app_list]
  cases hs : s.data.toList with
  | nil => rw [hs] at hp; simp at hp
  | cons c r =>
    rw [hs] at hall hv
    exact lex_number (hall c (by simp)) hall (by omega)

set_option maxRecDepth 100000 in
set_option maxHeartbeats 8000000 in
theorem numbers_walk (a b : Int) (ha0 : -9223372036854775808 ≤ a) (ha1 : a < 9223372036854775808) (hb0 : 0 ≤ b) (hb1 : b < 256) (w : World) (he : ErrW w) :
    Calls Tryd.prog 8 #[.int .i64 a, .int .u8 b] w fun e w' => e = .returned (.bool true) ∧ Keeps (fun _ => False) w w' := by
  obtain ⟨n, hn, hn1⟩ := and_most a
  obtain ⟨m, hm, hm1⟩ : ∃ m : Nat, bits BinOp.and IntKind.u8 b 7 = (m : Int) ∧ m ≤ 7 := by
    obtain ⟨x, rfl⟩ := Int.eq_ofNat_of_zero_le hb0
    exact ⟨x % 8, and7 x (by omega), by omega⟩
  have hmw : IntKind.i64.wrap (m : Int) = m := IntWalk.i64_in _ (by omega)
  have SC := Lib.hid (shown_any w he)
  have HE := Lib.hid he
  clear he
  go_enter Tryd.func8, Tryd.ntmps8
  go_wp2_with fail
  refine SC.out.mono ?_
  rintro e w1 ⟨rfl, k1⟩
  have HE1 := Lib.hid (HE.out.keep k1)
  have K1 := Lib.hid k1
  have DC := Lib.hid (digits_any n hn1 w1)
  clear k1 SC HE
  go_wp2_with fail
  refine DC.out.mono ?_
  rintro e w2 ⟨s, rfl, hN, hs, hw⟩
  obtain rfl : w1 = w2 := hw.symm
  have HN0 := Lib.hid hN
  clear hN hw DC
  go_wp2_with fail
  go_loopw [6, 7] (fun s6 s7 wr => ∃ (k : Nat) (x : ByteArray), k ≤ m ∧ s6 = .string x ∧ s7 = .int .i64 k ∧ Num n x ∧ x.size ≤ 19 + k ∧ wr = w1) (fun _ s7 _ => 8 - (intOf s7).toNat)
  case atStart => exact ⟨0, s, by omega, rfl, rfl, HN0.out, by omega, rfl⟩
  case round =>
    obtain ⟨k, x, hk, rfl, rfl, hN, hx, hw⟩ := hrel
    obtain rfl : w1 = wr := hw.symm
    have HN := Lib.hid hN
    clear hN hw
    by_cases hkm : k < m
    · have hI : (k : Int) < (m : Int) := by omega
      have hd : decide ((k : Int) < (m : Int)) = true := decide_eq_true hI
      have hx30 : x.size ≤ 30 := by omega
      have HM := Lib.hid (HN.out.more)
      have HS := Lib.hid (show (({ data := #[48] } : ByteArray) ++ x).size ≤ 19 + (k + 1) by rw [ByteArray.size_append]; show 1 + x.size ≤ _; omega)
      clear hx
      go_wp2
      go_roundw
      case rel => exact ⟨k + 1, _, by omega, rfl, by go_num, HM.out, HS.out, by first | rfl | trivial⟩
      case measure => simp [intOf]; omega
    · have hI : ¬ (k : Int) < (m : Int) := by omega
      have hd : decide ((k : Int) < (m : Int)) = false := decide_eq_false hI
      have hx30 : x.size ≤ 30 := by omega
      have hlx := num_lex HN.out hn1
      obtain ⟨y, hy⟩ : ∃ y : ByteArray, y = x ++ { data := #[59] } := ⟨_, rfl⟩
      have hys : y.size ≤ 600 := by rw [hy, ByteArray.size_append]; show x.size + 1 ≤ _; omega
      rw [← hy] at hlx
      have HY := Lib.hid hy
      clear hx hy
      by_cases h19 : x.size ≤ 19
      · have h19I : ¬ (19 : Int) < (x.size : Int) := by omega
        have hd19 : decide ((19 : Int) < (x.size : Int)) = false := decide_eq_false h19I
        rw [if_pos h19] at hlx
        obtain ⟨l, hl⟩ : ∃ l : List UInt8, l = x.data.toList := ⟨_, rfl⟩
        rw [← hl] at hlx
        have HX := Lib.hid (show ofL l = x by rw [hl]; exact (ofL_of rfl).symm)
        have YC := Lib.hid (all_ok y hys _ hlx w1 HE1.out)
        have BC : Hid (∀ w', ErrW w' → Calls Tryd.prog 17 #[.string { data := #[57, 50, 50, 51, 51, 55, 50, 48, 51, 54, 56, 53, 52, 55, 55, 53, 56, 48, 56] }] w' fun e w'' => e = .returned (.tuple #[.slice none 0 0, .int .i64 0, .int .i64 12]) ∧ Keeps (fun _ => False) w' w'') := fun w' h => all_bad { data := #[57, 50, 50, 51, 51, 55, 50, 48, 51, 54, 56, 53, 52, 55, 55, 53, 56, 48, 56] } (by decide) 0 12 (by rw [show ({ data := #[57, 50, 50, 51, 51, 55, 50, 48, 51, 54, 56, 53, 52, 55, 55, 53, 56, 48, 56] } : ByteArray).data.toList = [57, 50, 50, 51, 51, 55, 50, 48, 51, 54, 56, 53, 52, 55, 55, 53, 56, 48, 56] from rfl, lex_big]) w' h
        have MC : Hid (∀ w', ErrW w' → Calls Tryd.prog 17 #[.string { data := #[57, 50, 50, 51, 51, 55, 50, 48, 51, 54, 56, 53, 52, 55, 55, 53, 56, 48, 55] }] w' fun e w'' => ∃ A c, e = .returned (.tuple #[.slice A 2 c, .int .i64 0, .int .i64 0]) ∧ Keeps (fun _ => False) w' w'') := fun w' h =>
          (all_ok { data := #[57, 50, 50, 51, 51, 55, 50, 48, 51, 54, 56, 53, 52, 55, 55, 53, 56, 48, 55] } (by decide) (lexL [57, 50, 50, 51, 51, 55, 50, 48, 51, 54, 56, 53, 52, 55, 55, 53, 56, 48, 55] 0).1 (Prod.ext rfl lex_most.1) w' h).mono fun e w'' ⟨A, c, e1, _, k⟩ => ⟨A, c, by rw [e1, lex_most.2], k⟩
        clear hlx hys h19 hl hkm hk hs HN HN0
        go_wp2_with fail
        rw [← HY.out]
        refine YC.out.mono ?_
        rintro e w3 ⟨A, c, rfl, hr, k3⟩
        have hr0 := (hr (by simp))
        obtain ⟨b, off, rfl, hc⟩ := hr0
        have c0 : w3.cell? ⟨b, off, none⟩ = some (.int .i64 1) := (hc 0 (by simp)).1
        have c1 : w3.cell? ⟨b, off + 1, none⟩ = some (.string (ofL l)) := (hc 0 (by simp)).2.1
        rw [HX.out] at c1
        have hbl := cell_ltk c0
        have hlen : ([⟨1, l, 0⟩, ⟨5, [59], x.size⟩, ⟨0, [], x.size + 1⟩] : List Tok).length = 3 := rfl
        rw [hlen]
        have BC3 := Lib.hid (BC.out w3 (HE1.out.keep k3))
        have K3 := Lib.hid (K1.out.trans k3 (fun _ _ h => h))
        have HE3 := Lib.hid (HE1.out.keep k3)
        clear hr hc k3 YC BC hlen
        go_wp2_with fail
        refine BC3.out.mono ?_
        rintro e w4 ⟨rfl, k4⟩
        have d0 := (k4.cell hbl (fun h => h)).trans c0
        have d1 := (k4.cell hbl (fun h => h)).trans c1
        have hbl4 := cell_ltk d0
        have MC4 := Lib.hid (MC.out w4 (HE3.out.keep k4))
        have K4 := Lib.hid (K3.out.trans k4 (fun _ _ h => h))
        clear c0 c1 k4 BC3 MC
        go_wp2_with fail
        refine MC4.out.mono ?_
        rintro e w5 ⟨A5, c5, rfl, k5⟩
        have f0 := (k5.cell hbl4 (fun h => h)).trans d0
        have f1 := (k5.cell hbl4 (fun h => h)).trans d1
        have K5 := Lib.hid (K4.out.trans k5 (fun _ _ h => h))
        clear d0 d1 k5 MC4
        go_wp2
        go_ret
        exact ⟨rfl, K5.out⟩
      · have h19I : (19 : Int) < (x.size : Int) := by omega
        have hd19 : decide ((19 : Int) < (x.size : Int)) = true := decide_eq_true h19I
        rw [if_neg h19] at hlx
        have YC := Lib.hid (all_bad y hys 0 12 (by rw [hlx]) w1 HE1.out)
        clear hlx hys h19 hkm hk hs HN HN0
        go_wp2_with fail
        rw [← HY.out]
        refine YC.out.mono ?_
        rintro e w3 ⟨rfl, k3⟩
        have K3 := Lib.hid (K1.out.trans k3 (fun _ _ h => h))
        clear k3 YC
        go_wp2
        go_ret
        exact ⟨rfl, K3.out⟩

end Go.Proofs.YtoombjbpblighaaDoor
