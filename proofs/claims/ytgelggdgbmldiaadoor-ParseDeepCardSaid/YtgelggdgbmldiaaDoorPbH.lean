/-
  Layer 2: the walk of ParseDeep. Written by an AI agent.
-/
import Derived.Test.YtgelggdgbmldiaaDoorPbJ
import Derived.Deep.LoopGhost
import Derived.Deep.Light
namespace Go.Proofs.YtgelggdgbmldiaaDoor
open Go Go.RowKit Go.Shelf
set_option linter.unusedVariables false
set_option linter.unusedSimpArgs false

theorem deepO_succ (b : Bool) (n : Nat) : deepO b (n + 1) = deepO b n ++ [if b then 45 else 40] := List.replicate_succ'
theorem deepE_succ (n : Nat) : deepE false (n + 1) = deepE false n ++ [41] := List.replicate_succ'
theorem deep_step {S : ByteArray} {l : List UInt8} (h : S.data.toList = l) (c : UInt8) : (S ++ ({ data := #[c] } : ByteArray)).data.toList = l ++ [c] := by
  rw [← h]
  simp

set_option maxRecDepth 100000 in
set_option maxHeartbeats 16000000 in
theorem deep_walk (a : Int) (b : Bool) (ha : 0 ≤ a ∧ a ≤ 255) (w : World) (he : ErrW w) : Calls Tryd.prog 4 #[.int .u8 a, .bool b] w fun e w' => e = .returned (.bool true) ∧ Keeps (fun _ => False) w w' := by
  have SC := Lib.hid (shown_any w he)
  have HE := Lib.hid he
  obtain ⟨n, han, hn⟩ : ∃ n : Nat, a % 32 = (n : Int) ∧ n < 32 := ⟨(a % 32).toNat, by omega, by omega⟩
  have HNB := Lib.hid hn
  clear he
  go_enter Tryd.func4, Tryd.ntmps4
  go_wp2_with fail
  refine SC.out.mono ?_
  rintro e w1 ⟨rfl, k1⟩
  have K1 := Lib.hid k1
  clear SC k1
  go_wp2_with fail
  rw [han]
  go_loopg [7, 8, 9] (n + 1) (fun g s7 s8 s9 wr => ∃ (i : Nat) (S T : ByteArray), s9 = .int .i64 i ∧ s7 = .string S ∧ s8 = .string T ∧ i + g = n + 1 ∧ i ≤ n ∧ S.data.toList = deepO b i ∧ T.data.toList = deepE b i ∧ wr = w1)
  case atStart => exact ⟨0, _, _, rfl, rfl, rfl, by omega, by omega, rfl, by cases b <;> rfl, rfl⟩
  case round =>
    obtain ⟨i, S, T, rfl, rfl, rfl, hik, hle, hS, hT, rfl⟩ := hrel
    have HIK := Lib.hid hik
    have HS := Lib.hid hS
    have HT := Lib.hid hT
    have hSl : S.size = i := by rw [← len_size, hS]; unfold deepO; rw [List.length_replicate]
    have hTl : T.size ≤ i := by rw [← len_size, hT]; unfold deepE; cases b <;> simp
    by_cases hin : i < n
    · have hinI : (i : Int) < (n : Int) := by omega
      have hd : decide ((i : Int) < (n : Int)) = true := decide_eq_true hinI
      have hw := IntWalk.i64_in ((i : Int) + 1) (by omega)
      have q1 : ¬ 9223372036854775807 < S.size + 1 := by omega
      have q2 : ¬ 9223372036854775807 < T.size + 1 := by omega
      have HIN := Lib.hid hin
      have HSL := Lib.hid hSl
      clear hik hin hS hT hSl hTl
      cases b
      · go_wp2_with fail
        go_roundg (gk - 1)
        case measure => go_light; have h1 := HIK.out; have h2 := HIN.out; omega
        case rel => exact ⟨i + 1, _, _, by go_num, rfl, rfl, by have h1 := HIK.out; have h2 := HIN.out; go_light; omega, by have h2 := HIN.out; go_light; omega, by rw [deep_step HS.out]; exact (deepO_succ false i).symm, by rw [deep_step HT.out]; exact (deepE_succ i).symm, rfl⟩
      · go_wp2_with fail
        go_roundg (gk - 1)
        case measure => go_light; have h1 := HIK.out; have h2 := HIN.out; omega
        case rel => exact ⟨i + 1, _, _, by go_num, rfl, rfl, by have h1 := HIK.out; have h2 := HIN.out; go_light; omega, by have h2 := HIN.out; go_light; omega, by rw [deep_step HS.out]; exact (deepO_succ true i).symm, by rw [HT.out]; rfl, rfl⟩
    · obtain rfl : i = n := by omega
      have hinI : ¬ (i : Int) < (i : Int) := by omega
      have hd : decide ((i : Int) < (i : Int)) = false := decide_eq_false hinI
      have hi32 := HNB.out
      have q1 : ¬ 9223372036854775807 < 18 + S.size := by omega
      have q2 : ¬ 9223372036854775807 < 18 + S.size + 1 := by omega
      have q3 : ¬ 9223372036854775807 < 18 + S.size + 1 + T.size := by omega
      have q4 : ¬ 9223372036854775807 < 18 + S.size + 1 + T.size + 3 := by omega
      obtain ⟨Z, hZ⟩ : ∃ Z : ByteArray, Z = ((({ data := #[102, 110, 32, 109, 97, 105, 110, 40, 41, 32, 123, 32, 112, 114, 105, 110, 116, 32] } ++ S) ++ { data := #[55] }) ++ T) ++ { data := #[59, 32, 125] } := ⟨_, rfl⟩
      have hZl : Z.data.toList = deepSrc b i := by rw [hZ]; unfold deepSrc; rw [← hS, ← hT]; simp
      have hZs : Z.size ≤ 1000 := by rw [hZ]; simp only [ByteArray.size_append]; show 18 + S.size + 1 + T.size + 3 ≤ 1000; omega
      have HZ := Lib.hid hZ
      have HZL := Lib.hid hZl
      have HZS := Lib.hid hZs
      clear hin hik hS hT hZ hZl hZs hSl hTl hi32
      by_cases h16 : 16 ≤ i
      · have h16I : (16 : Int) ≤ (i : Int) := by omega
        have hd16 : decide ((16 : Int) ≤ (i : Int)) = true := decide_eq_true h16I
        have AC : Hid (Calls Tryd.prog 13 #[.string Z] wr fun e w' => e = .returned (.tuple #[.agg #[.slice none 0 0, .slice none 0 0], .int .i64 33, .int .i64 21]) ∧ Keeps (fun _ => False) wr w') := Lib.hid ((pall_any Z HZS.out 200 (by omega) (.inl (33, 21)) (by rw [HZL.out]; exact far_at b i h16 HNB.out) wr (HE.out.keep K1.out)).mono fun e w' ⟨h1, h2⟩ => ⟨h1, h2⟩)
        clear h16
        go_wp2_with fail
        rw [← HZ.out]
        refine AC.out.mono ?_
        rintro e w5 ⟨rfl, k5⟩
        have K5 := Lib.hid (K1.out.trans (k5.alloc (.cells #[.slice none 0 0, .slice none 0 0] 27)) (fun _ _ h => h))
        clear AC k5
        go_wp2_with fail
        go_ret
        exact ⟨rfl, K5.out⟩
      · have h16I : ¬ (16 : Int) ≤ (i : Int) := by omega
        have hd16 : decide ((16 : Int) ≤ (i : Int)) = false := decide_eq_false h16I
        have NEAR : ∃ nd fs, allP 200 (deepSrc b i) = some (.inr (nd, fs)) ∧ (b = true → nd.length = i + 3) ∧ (b = false → nd = plainN ∧ fs = plainF) := by
          cases b
          · exact ⟨plainN, plainF, paren_all i (by omega), fun h => (by cases h), fun _ => ⟨rfl, rfl⟩⟩
          · obtain ⟨t, h1, h2⟩ := sign_at i (by omega)
            exact ⟨t.1, t.2, h1, fun _ => h2, fun h => (by cases h)⟩
        obtain ⟨nd, fs, hnear, hsg, hpl⟩ := NEAR
        have HSG := Lib.hid hsg
        have HPL := Lib.hid hpl
        obtain ⟨m, hm⟩ : ∃ m, m = nd.length := ⟨_, rfl⟩
        obtain ⟨k, hk⟩ : ∃ k, k = fs.length := ⟨_, rfl⟩
        have HM := Lib.hid hm
        have HK := Lib.hid hk
        have AC : Hid (Calls Tryd.prog 13 #[.string Z] wr fun e w' => ∃ A c A' c', e = .returned (.tuple #[.agg #[.slice A m c, .slice A' k c'], .int .i64 0, .int .i64 0]) ∧ TreeR 0 w' A A' nd fs ∧ Keeps (fun _ => False) wr w') := Lib.hid ((pall_any Z HZS.out 200 (by omega) (.inr (nd, fs)) (by rw [HZL.out]; exact hnear) wr (HE.out.keep K1.out)).mono fun e w' ⟨⟨A, c, A', c', h1, h3⟩, h2⟩ => ⟨A, c, A', c', by rw [h1, hm, hk], h3, h2⟩)
        have PC : Hid (∀ wq, Keeps (fun _ => False) w wq → Calls Tryd.prog 13 #[.string { data := #[102, 110, 32, 109, 97, 105, 110, 40, 41, 32, 123, 32, 112, 114, 105, 110, 116, 32, 55, 59, 32, 125] }] wq fun e w' => ∃ A c A' c', e = .returned (.tuple #[.agg #[.slice A 3 c, .slice A' 1 c'], .int .i64 0, .int .i64 0]) ∧ TreeR 0 w' A A' plainN plainF ∧ Keeps (fun _ => False) wq w') := Lib.hid fun wq kq => (pall_any { data := #[102, 110, 32, 109, 97, 105, 110, 40, 41, 32, 123, 32, 112, 114, 105, 110, 116, 32, 55, 59, 32, 125] } (by decide) 200 (by omega) (.inr (plainN, plainF)) plain_parse wq (HE.out.keep kq)).mono fun e w' ⟨⟨A, c, A', c', h1, h3⟩, h2⟩ => ⟨A, c, A', c', h1, h3, h2⟩
        clear h16 hnear hsg hpl hm hk
        go_wp2_with fail
        rw [← HZ.out]
        refine AC.out.mono ?_
        rintro e w5 ⟨A, c, A', c', rfl, ht, k5⟩
        have HTR := Lib.hid ht
        have K5 := Lib.hid (K1.out.trans k5 (fun _ _ h => h))
        clear AC k5 ht
        go_upto_region 13 with fail
        have ka := Keeps.one w5 (.cells #[.slice A m c, .slice A' k c'] 27)
        obtain ⟨X, hX⟩ : ∃ X, X = w5.heap.size := ⟨_, rfl⟩
        obtain ⟨w6, hw⟩ : ∃ w6, w6 = w5.alloc (.cells #[.slice A m c, .slice A' k c'] 27) := ⟨_, rfl⟩
        have HX6 : Hid (Loc w6 (fun _ => False) X [.slice A m c, .slice A' k c']) := Lib.hid (by rw [hw, hX]; exact Loc.new (fun h => h) [.slice A m c, .slice A' k c'] 27)
        rw [← hX]
        rw [← hw] at ka ⊢
        have K6 := Lib.hid (K5.out.trans ka (fun _ _ h => h))
        have HTR6 := Lib.hid (HTR.out.keep ka)
        have PP := Lib.hid (PC.out w6 K6.out)
        clear ka hw hX PC HTR
        go_wp2_with fail
        refine PP.out.mono ?_
        rintro e w7 ⟨B, d, B', d', rfl, hu, k7⟩
        have HX7 := Lib.hid (HX6.out.keeps k7)
        have HTR7 := Lib.hid (HTR6.out.keep k7)
        have HU7 := Lib.hid hu
        have K7 := Lib.hid (K6.out.trans k7 (fun _ _ h => h))
        clear PP k7 hu
        go_upto_region 16 with fail
        have ka := Keeps.one w7 (.cells #[.slice B 3 d, .slice B' 1 d'] 27)
        obtain ⟨Y, hY⟩ : ∃ Y, Y = w7.heap.size := ⟨_, rfl⟩
        obtain ⟨w8, hw⟩ : ∃ w8, w8 = w7.alloc (.cells #[.slice B 3 d, .slice B' 1 d'] 27) := ⟨_, rfl⟩
        have HY8 : Hid (Loc w8 (fun _ => False) Y [.slice B 3 d, .slice B' 1 d']) := Lib.hid (by rw [hw, hY]; exact Loc.new (fun h => h) [.slice B 3 d, .slice B' 1 d'] 27)
        rw [← hY]
        rw [← hw] at ka ⊢
        have HX8 := Lib.hid (HX7.out.keeps ka)
        have HTR8 := Lib.hid (HTR7.out.keep ka)
        have HU8 := Lib.hid (HU7.out.keep ka)
        have K8 := Lib.hid (K7.out.trans ka (fun _ _ h => h))
        clear ka hw hY
        have x0 := HX8.out.cells 0 _ rfl
        have x1 := HX8.out.cells 1 _ rfl
        have y0 := HY8.out.cells 0 _ rfl
        have y1 := HY8.out.cells 1 _ rfl
        cases b
        · obtain ⟨h1, h2⟩ := HPL.out rfl
          have h3 := HM.out
          have h4 := HK.out
          rw [h1] at h3
          rw [h2] at h4
          have h3 : m = 3 := h3
          have h4 : k = 1 := h4
          have QC : Hid (Calls Tryd.prog 14 #[.agg #[.slice A 3 c, .slice A' 1 c'], .agg #[.slice B 3 d, .slice B' 1 d']] w8 fun e w' => e = .returned (.bool true) ∧ Keeps (fun _ => False) w8 w') := Lib.hid (same_any A A' B B' c c' d d' 3 1 plainN plainF w8 (by have := HTR8.out; rw [h1, h2] at this; exact this) HU8.out rfl rfl ⟨by omega, by intro x hx; simp only [plainN, List.mem_cons, List.not_mem_nil, or_false] at hx; rcases hx with rfl | rfl | rfl <;> simp⟩ (by omega) (by intro x hx; simp only [plainF, List.mem_cons, List.not_mem_nil, or_false] at hx; rw [hx]; simp))
          rw [h3] at x0
          rw [h4] at x1
          clear h1 h2 h3 h4
          go_wp2_with (go_at_call 14; refine QC.out.mono ?_; rintro e w9 ⟨rfl, k9⟩; have K9 := Lib.hid (K8.out.trans k9 (fun _ _ h => h)); clear k9)
          go_ret
          exact ⟨rfl, K9.out⟩
        · have h3 := HM.out
          rw [HSG.out rfl] at h3
          have h5 : (m : Int) = (i : Int) + 3 := by omega
          have hw3 := IntWalk.i64_in ((i : Int) + 3) (by have := HNB.out; omega)
          clear h3
          go_wp2_with fail
          go_ret
          exact ⟨rfl, K8.out⟩

end Go.Proofs.YtgelggdgbmldiaaDoor
