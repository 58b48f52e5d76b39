/-
  Layer 1: the contract of the document's skip. Written by an AI agent.
-/
import Derived.Test.YtoombjbpblighaaDoorRfC
namespace Go.Proofs.YtoombjbpblighaaDoor
open Go.RowKit Go.Shelf
set_option linter.unusedVariables false
set_option linter.unusedSimpArgs false

theorem drop_at {s : ByteArray} {l : List UInt8} (hl : l = s.data.toList) {j : Nat} (h : j < s.size) : l.drop j = s[j] :: l.drop (j + 1) := by
  have h1 := at_byte s j h
  rw [← hl] at h1
  obtain ⟨h2, h3⟩ := List.getElem?_eq_some_iff.1 h1
  rw [List.drop_eq_getElem_cons h2, h3]
theorem rem_two (c d : UInt8) (r : List UInt8) : isRem (c :: d :: r) = (decide (c = 47) && decide (d = 47)) := by
  rw [Bool.eq_iff_iff]
  simp only [Bool.and_eq_true, decide_eq_true_eq]
  constructor
  · intro h
    obtain ⟨t, e⟩ := List.isPrefixOf_iff_prefix.1 h
    simp only [List.cons_append, List.cons.injEq] at e
    exact ⟨e.1.symm, e.2.1.symm⟩
  · rintro ⟨rfl, rfl⟩
    exact List.isPrefixOf_iff_prefix.2 ⟨r, rfl⟩
theorem rem_one (c : UInt8) : isRem [c] = false := by
  cases h : isRem [c] with
  | false => rfl
  | true =>
    have := (List.isPrefixOf_iff_prefix.1 h).length_le
    simp at this
/-- Behind a remark. -/
theorem rem_jump {l : List UInt8} {j : Nat} (h1 : isRem (l.drop j) = true) (hb : ∀ c, l[j]? = some c → blk c = false) :
    lexL (l.drop (j + runL (fun d => !decide (d = 10)) (l.drop j))) (j + runL (fun d => !decide (d = 10)) (l.drop j)) = lexL (l.drop j) j := by
  cases hd : l.drop j with
  | nil => rw [hd] at h1; exact absurd h1 (by decide)
  | cons c r =>
    rw [hd] at h1
    have hc : l[j]? = some c := by
      have : (l.drop j)[0]? = some c := by rw [hd]; rfl
      rw [List.getElem?_drop] at this
      exact this
    have hbc := hb c hc
    rw [← List.drop_drop, hd]
    by_cases he : runL (fun d => !decide (d = 10)) (c :: r) = (c :: r).length
    · rw [lexL_rem_end hbc h1 he, he, List.drop_length, lexL_nil]
    · rw [lexL_rem hbc h1 he]

set_option maxRecDepth 100000 in
set_option maxHeartbeats 8000000 in
theorem rskip_any (s : ByteArray) (hs : s.size ≤ 1000) (i : Nat) (hi : i ≤ s.size) (w : World) : Calls Tryd.prog 45 #[.string s, .int .i64 i] w fun e w' => (∃ j : Nat, e = .returned (.int .i64 (j : Int)) ∧ i ≤ j ∧ j ≤ s.size ∧ lexL (s.data.toList.drop j) j = lexL (s.data.toList.drop i) i ∧
    (j < s.size → ∃ c r, s.data.toList.drop j = c :: r ∧ blk c = false ∧ isRem (c :: r) = false)) ∧ w' = w := by
  obtain ⟨l, hl⟩ : ∃ l : List UInt8, l = s.data.toList := ⟨_, rfl⟩
  have hlen : l.length = s.size := by rw [hl, len_size]
  rw [← hl]
  have HL := Lib.hid hl
  have HLN := Lib.hid hlen
  clear hl hlen
  go_enter Tryd.func45, Tryd.ntmps45
  go_wp2_with fail
  go_loopw [1] (fun s1 wr => ∃ (j : Nat), i ≤ j ∧ j ≤ s.size ∧ s1 = .int .i64 j ∧ lexL (l.drop j) j = lexL (l.drop i) i ∧ wr = w) (fun s1 _ => s.size + 1 - (intOf s1).toNat)
  case atStart => exact ⟨i, Nat.le_refl _, hi, rfl, rfl, rfl⟩
  case round =>
    obtain ⟨j, hij, hj, rfl, hlx, hw⟩ := hrel
    obtain rfl : w = wr := hw.symm
    have HX := Lib.hid hlx
    clear hw hlx
    by_cases hN : j < s.size
    · have hNI : (j : Int) < (s.size : Int) := by omega
      have hNd : decide ((j : Int) < (s.size : Int)) = true := decide_eq_true hNI
      have hj0 : (0 : Int) ≤ (j : Int) := by omega
      have hd := drop_at HL.out hN
      have hat := at_byte s j hN
      rw [← HL.out] at hat
      have HD := Lib.hid hd
      have HAT := Lib.hid hat
      clear hd hat
      by_cases hb : blk s[j] = true
      · have hbn : s[j].toNat = 32 ∨ s[j].toNat = 9 ∨ s[j].toNat = 13 ∨ s[j].toNat = 10 := by
          have hb2 := hb
          unfold blk at hb2
          simp only [Bool.or_eq_true, decide_eq_true_eq] at hb2
          omega
        have HN : Hid (lexL (l.drop (j + 1)) (j + 1) = lexL (l.drop i) i) := by
          rw [← HX.out, HD.out, lexL_blank hb]
          exact Lib.hid rfl
        clear hb
        rcases hbn with hn | hn | hn | hn
        · have n32 : ((s[j].toNat : Int) == 32) = true := by simp; omega
          have HNN := Lib.hid hn
          clear hn
          go_wp2
          go_roundw
          case rel => exact ⟨j + 1, by omega, by omega, by go_num, HN.out, by first | rfl | trivial⟩
          case measure => simp [intOf]; omega
        · have n32 : ((s[j].toNat : Int) == 32) = false := by simp; omega
          have n9 : ((s[j].toNat : Int) == 9) = true := by simp; omega
          have HNN := Lib.hid hn
          clear hn
          go_wp2
          go_roundw
          case rel => exact ⟨j + 1, by omega, by omega, by go_num, HN.out, by first | rfl | trivial⟩
          case measure => simp [intOf]; omega
        · have n32 : ((s[j].toNat : Int) == 32) = false := by simp; omega
          have n9 : ((s[j].toNat : Int) == 9) = false := by simp; omega
          have n13 : ((s[j].toNat : Int) == 13) = true := by simp; omega
          have HNN := Lib.hid hn
          clear hn
          go_wp2
          go_roundw
          case rel => exact ⟨j + 1, by omega, by omega, by go_num, HN.out, by first | rfl | trivial⟩
          case measure => simp [intOf]; omega
        · have n32 : ((s[j].toNat : Int) == 32) = false := by simp; omega
          have n9 : ((s[j].toNat : Int) == 9) = false := by simp; omega
          have n13 : ((s[j].toNat : Int) == 13) = false := by simp; omega
          have n10 : ((s[j].toNat : Int) == 10) = true := by simp; omega
          have HNN := Lib.hid hn
          clear hn
          go_wp2
          go_roundw
          case rel => exact ⟨j + 1, by omega, by omega, by go_num, HN.out, by first | rfl | trivial⟩
          case measure => simp [intOf]; omega
      · have hbf : blk s[j] = false := Bool.eq_false_iff.2 hb
        have hbn : s[j].toNat ≠ 32 ∧ s[j].toNat ≠ 9 ∧ s[j].toNat ≠ 13 ∧ s[j].toNat ≠ 10 := by
          have hb2 := hbf
          unfold blk at hb2
          simp only [Bool.or_eq_false_iff, decide_eq_false_iff_not] at hb2
          omega
        have n32 : ((s[j].toNat : Int) == 32) = false := by simp; omega
        have n9 : ((s[j].toNat : Int) == 9) = false := by simp; omega
        have n13 : ((s[j].toNat : Int) == 13) = false := by simp; omega
        have n10 : ((s[j].toNat : Int) == 10) = false := by simp; omega
        have HB := Lib.hid hbf
        clear hb hbf hbn
        have hret : isRem (l.drop j) = false → (j < s.size → ∃ c r, l.drop j = c :: r ∧ blk c = false ∧ isRem (c :: r) = false) := fun h _ => ⟨s[j], l.drop (j + 1), HD.out, HB.out, by rw [← HD.out]; exact h⟩
        have HRET := Lib.hid hret
        clear hret
        by_cases h47 : s[j].toNat = 47
        · have n47 : ((s[j].toNat : Int) == 47) = true := by simp; omega
          by_cases h2 : j + 1 < s.size
          · have h2I : (j : Int) + 1 < (s.size : Int) := by omega
            have h2d : decide ((j : Int) + 1 < (s.size : Int)) = true := decide_eq_true h2I
            have hj1 : (0 : Int) ≤ (j : Int) + 1 := by omega
            have tj1 : ((j : Int) + 1).toNat = j + 1 := by omega
            have hd2 := drop_at HL.out h2
            have hrm : isRem (l.drop j) = (decide (s[j] = 47) && decide (s[j + 1] = 47)) := by rw [HD.out, hd2, rem_two]
            have e1 : decide (s[j] = 47) = true := decide_eq_true (UInt8.toNat_inj.1 (by rw [h47]; rfl))
            rw [e1, Bool.true_and] at hrm
            by_cases h48 : s[j + 1].toNat = 47
            · have n48 : ((s[j + 1].toNat : Int) == 47) = true := by simp; omega
              rw [decide_eq_true (UInt8.toNat_inj.1 (by rw [h48]; rfl))] at hrm
              have hjump := rem_jump hrm (fun c hc => by rw [HAT.out] at hc; rw [← Option.some.inj hc]; exact HB.out)
              obtain ⟨r, hr⟩ : ∃ r, r = l.drop j := ⟨_, rfl⟩
              have hr2 : 2 ≤ runL (fun d => !decide (d = 10)) r := by rw [hr]; exact rem_size _ hrm
              have hrl : r.length = s.size - j := by rw [hr, List.length_drop, HLN.out]
              rw [HX.out, ← hr] at hjump
              have HJ := Lib.hid hjump
              have HRr := Lib.hid hr
              have HRL := Lib.hid hrl
              have H47 := Lib.hid h47
              have H48 := Lib.hid h48
              clear hrm hd2 e1 hjump hr hrl h47 h48
              go_wp2_with fail
              go_loopw [1] (fun s1 wr => ∃ (t k : Nat), k = j + t ∧ k ≤ s.size ∧ s1 = .int .i64 k ∧ t ≤ runL (fun d => !decide (d = 10)) r ∧ wr = w) (fun s1 _ => s.size + 1 - (intOf s1).toNat)
              case atStart => exact ⟨0, j, rfl, hj, rfl, Nat.zero_le _, rfl⟩
              case round =>
                obtain ⟨t, k, hk, hks, rfl, ht, hw⟩ := hrel
                obtain rfl : w = wr := hw.symm
                clear hw
                obtain ⟨st1, st2⟩ := run_step ht
                have hout : t = runL (fun d => !decide (d = 10)) r → lexL (l.drop k) k = lexL (l.drop i) i := fun h => by rw [hk, h]; exact HJ.out
                by_cases hkN : k < s.size
                · have hkI : (k : Int) < (s.size : Int) := by omega
                  have hkd : decide ((k : Int) < (s.size : Int)) = true := decide_eq_true hkI
                  have hk0 : (0 : Int) ≤ (k : Int) := by omega
                  have hc : r[t]? = some s[k] := by
                    have h1 := at_drop s j t (by omega)
                    rw [HRr.out, HL.out, h1]
                    congr 1
                    congr 1
                    exact hk.symm
                  have h3 := st1 _ hc
                  by_cases h10 : s[k].toNat = 10
                  · have m10 : ((s[k].toNat : Int) != 10) = false := by simp; omega
                    have hte := h3.2 (by simp; exact UInt8.toNat_inj.1 (by rw [h10]; rfl))
                    have HO := Lib.hid (hout hte)
                    have HK : Hid (j < k) := Lib.hid (by omega)
                    have H10 := Lib.hid h10
                    have HKK := Lib.hid hk
                    clear h3 hc st1 st2 hout h10 hte hk
                    go_wp2
                    go_roundw
                    case rel => exact ⟨k, by have := HK.out; omega, hks, rfl, HO.out, by first | rfl | trivial⟩
                    case measure => have := HK.out; simp [intOf]; omega
                  · have m10 : ((s[k].toNat : Int) != 10) = true := by simp; omega
                    have hte := h3.1 (by simp; intro e; rw [e] at h10; exact h10 rfl)
                    have HKK := Lib.hid hk
                    clear h3 hc st1 st2 hout hk
                    go_wp2
                    go_roundw
                    case rel => exact ⟨t + 1, k + 1, by have := HKK.out; omega, by omega, by go_num, hte, by first | rfl | trivial⟩
                    case measure => simp [intOf]; omega
                · have hkd : decide ((k : Int) < (s.size : Int)) = false := decide_eq_false (by omega)
                  have hte := st2 (List.getElem?_eq_none_iff.2 (by rw [HRL.out]; omega))
                  have HO := Lib.hid (hout hte)
                  have HK : Hid (j < k) := Lib.hid (by omega)
                  have HKK := Lib.hid hk
                  clear st1 st2 hout hte hk
                  go_wp2
                  go_roundw
                  case rel => exact ⟨k, by have := HK.out; omega, hks, rfl, HO.out, by first | rfl | trivial⟩
                  case measure => have := HK.out; simp [intOf]; omega
            · have n48 : ((s[j + 1].toNat : Int) == 47) = false := by simp; omega
              rw [decide_eq_false (fun e => h48 (by rw [e]; rfl))] at hrm
              have HR := Lib.hid (HRET.out hrm)
              have H47 := Lib.hid h47
              clear hrm hd2 e1 h47 h48
              go_wp2
              go_ret
              exact ⟨⟨j, rfl, hij, hj, HX.out, HR.out⟩, rfl⟩
          · have h2d : decide ((j : Int) + 1 < (s.size : Int)) = false := decide_eq_false (by omega)
            have hrm : isRem (l.drop j) = false := by
              rw [HD.out, List.drop_of_length_le (by rw [HLN.out]; omega)]
              exact rem_one _
            have HR := Lib.hid (HRET.out hrm)
            have H47 := Lib.hid h47
            clear hrm h47
            go_wp2
            go_ret
            exact ⟨⟨j, rfl, hij, hj, HX.out, HR.out⟩, rfl⟩
        · have n47 : ((s[j].toNat : Int) == 47) = false := by simp; omega
          have hrm : isRem (l.drop j) = false := by
            cases h : isRem (l.drop j) with
            | false => rfl
            | true =>
              rw [HD.out] at h
              exact absurd (by rw [rem_head h]; rfl) h47
          have HR := Lib.hid (HRET.out hrm)
          clear hrm
          go_wp2
          go_ret
          exact ⟨⟨j, rfl, hij, hj, HX.out, HR.out⟩, rfl⟩
    · have hNd : decide ((j : Int) < (s.size : Int)) = false := decide_eq_false (by omega)
      go_wp2
      go_ret
      exact ⟨⟨j, rfl, hij, hj, HX.out, fun h => absurd h hN⟩, rfl⟩

end Go.Proofs.YtoombjbpblighaaDoor
