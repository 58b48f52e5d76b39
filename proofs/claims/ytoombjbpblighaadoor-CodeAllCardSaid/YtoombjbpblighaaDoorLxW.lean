/-
  Layer 1: the walk of LexWords. Written by an AI agent.
-/
import Derived.Test.YtoombjbpblighaaDoorLxT
namespace Go.Proofs.YtoombjbpblighaaDoor
open Go.RowKit Go.Shelf
set_option linter.unusedVariables false
set_option linter.unusedSimpArgs false

/-- A name that is being gathered. -/
def Gath (nm : ByteArray) (k : Nat) : Prop := nm.size ≤ k ∧ (∀ d ∈ nm.data.toList, nmc d = true) ∧ (0 < nm.size → ∃ c r, nm.data.toList = c :: r ∧ ltr c = true)
theorem Gath.zero : Gath { data := #[] } 0 := ⟨Nat.le_refl _, fun d h => by simp at h, fun h => absurd h (by decide)⟩
theorem Gath.same {nm : ByteArray} {k : Nat} (h : Gath nm k) : Gath nm (k + 1) := ⟨Nat.le_succ_of_le h.1, h.2⟩
theorem ext_one (s : ByteArray) (k : Nat) (h : k < s.size) : (s.extract k (k + 1)).data.toList = [s[k]] := by
  have h2 := at_byte s k h
  obtain ⟨h3, h4⟩ := List.getElem?_eq_some_iff.1 h2
  have : (s.extract k (k + 1)).data.toList = (s.data.toList.drop k).take 1 := by simp
  rw [this, List.drop_eq_getElem_cons h3, List.take_succ_cons, h4]
  rfl
theorem Gath.more {nm : ByteArray} {k : Nat} (h : Gath nm k) (x : ByteArray) (c : UInt8) (hx : x.data.toList = [c]) (hn : nmc c = true) (hl : ltr c = true ∨ 0 < nm.size) : Gath (nm ++ x) (k + 1) := by
  have e := app_list nm x
  rw [hx] at e
  have hs : (nm ++ x).size = nm.size + 1 := by rw [← len_size, e, List.length_append, len_size]; rfl
  refine ⟨by rw [hs]; have := h.1; omega, fun d hd => ?_, fun _ => ?_⟩
  · rw [e, List.mem_append, List.mem_singleton] at hd
    rcases hd with hd | rfl
    · exact h.2.1 d hd
    · exact hn
  · rw [e]
    by_cases h0 : 0 < nm.size
    · obtain ⟨c', r, e2, h3⟩ := h.2.2 h0
      exact ⟨c', r ++ [c], by rw [e2]; rfl, h3⟩
    · have hn0 : nm.data.toList = [] := by rw [← List.length_eq_zero_iff, len_size]; omega
      rw [hn0]
      exact ⟨c, [], rfl, hl.resolve_right h0⟩
theorem empty_iff (s : ByteArray) : (s.toList == ([] : List UInt8)) = decide (s.size = 0) := by
  rw [word_beq, Bool.eq_iff_iff]
  simp only [decide_eq_true_eq]
  rw [← len_size, List.length_eq_zero_iff]

set_option maxRecDepth 100000 in
set_option maxHeartbeats 8000000 in
theorem words_walk (s : ByteArray) (w : World) (he : ErrW w) : Calls Tryd.prog 7 #[.string s] w fun e w' => e = .returned (.bool true) ∧ Keeps (fun _ => False) w w' := by
  have SC := Lib.hid (shown_any w he)
  have HE := Lib.hid he
  clear he
  go_enter Tryd.func7, Tryd.ntmps7
  go_wp2_with fail
  refine SC.out.mono ?_
  rintro e w1 ⟨rfl, k1⟩
  have HE1 := Lib.hid (HE.out.keep k1)
  have K1 := Lib.hid k1
  clear k1 SC HE
  go_wp2_with fail
  go_loopw [4, 5] (fun s4 s5 wr => ∃ (k : Nat) (nm : ByteArray), k ≤ 20 ∧ k ≤ s.size ∧ s4 = .string nm ∧ s5 = .int .i64 k ∧ Gath nm k ∧ wr = w1) (fun _ s5 _ => 21 - (intOf s5).toNat)
  case atStart => exact ⟨0, _, by omega, by omega, rfl, rfl, Gath.zero, rfl⟩
  case round =>
    obtain ⟨k, nm, hk, hks, rfl, rfl, hg, rfl⟩ := hrel
    have HG := Lib.hid hg
    clear hg
    by_cases hgo : k < s.size ∧ k < 20
    · obtain ⟨h1, h2⟩ := hgo
      have hnm20 : nm.size ≤ 20 := Nat.le_trans HG.out.1 hk
      have h1I : (k : Int) < (s.size : Int) := by omega
      have h2I : (k : Int) < 20 := by omega
      have hk0 : (0 : Int) ≤ (k : Int) := by omega
      have hk1 : (0 : Int) ≤ (k : Int) + 1 := by omega
      have tk1 : ((k : Int) + 1).toNat = k + 1 := by omega
      have hkk : (k : Int) ≤ (k : Int) + 1 := by omega
      have hks1 : (k : Int) + 1 ≤ (s.size : Int) := by omega
      have swk : IntKind.i64.wrap ((k : Int) + 1) = (k : Int) + 1 := IntWalk.i64_in _ (by omega)
      obtain ⟨c, hc⟩ : ∃ c : UInt8, c = s[k] := ⟨_, rfl⟩
      have hx : (s.extract k (k + 1)).data.toList = [c] := by rw [hc]; exact ext_one s k h1
      obtain ⟨n, hn⟩ : ∃ n : Nat, n = s[k].toNat := ⟨_, rfl⟩
      have hnc : c.toNat = n := by rw [hn, hc]
      have hL : ltr c = true ↔ (97 ≤ n ∧ n ≤ 122) ∨ (65 ≤ n ∧ n ≤ 90) := by
        unfold ltr
        rw [hnc]
        simp only [Bool.or_eq_true, Bool.and_eq_true, decide_eq_true_eq]
      have hM : nmc c = true ↔ ((97 ≤ n ∧ n ≤ 122) ∨ (65 ≤ n ∧ n ≤ 90)) ∨ (48 ≤ n ∧ n ≤ 57) ∨ n = 95 := by
        unfold nmc
        simp only [Bool.or_eq_true, decide_eq_true_eq]
        rw [hL, hnc]
        unfold dig
        rw [hnc]
        simp only [Bool.and_eq_true, decide_eq_true_eq]
        omega
      have HMore : Hid (nmc c = true → (ltr c = true ∨ 0 < nm.size) → Gath (nm ++ s.extract k (k + 1)) (k + 1)) := fun a b => HG.out.more _ c hx a b
      have hem := empty_iff nm
      obtain ⟨ez, hez⟩ : ∃ ez : Bool, ez = decide (nm.size = 0) := ⟨_, rfl⟩
      rw [← hez] at hem
      have HZ := Lib.hid hez
      have HLt := Lib.hid hL
      have HMt := Lib.hid hM
      have HN := Lib.hid hn
      clear hx hc hnc hL hM hez hn
      go_upto_region 6 with fail
      by_cases q0 : 97 ≤ n
      · have e0 : (97 : Int) ≤ (s[k].toNat : Int) := by have := HN.out; omega
        have f0 : decide ((97 : Int) ≤ (s[k].toNat : Int)) = true := decide_eq_true e0
        by_cases q1 : n ≤ 122
        · have e1 : (s[k].toNat : Int) ≤ 122 := by have := HN.out; omega
          have f1 : decide ((s[k].toNat : Int) ≤ 122) = true := decide_eq_true e1
          by_cases q2 : 48 ≤ n
          · have e2 : (48 : Int) ≤ (s[k].toNat : Int) := by have := HN.out; omega
            have f2 : decide ((48 : Int) ≤ (s[k].toNat : Int)) = true := decide_eq_true e2
            by_cases q3 : n ≤ 57
            · exfalso; omega
            · have e3 : ¬ (s[k].toNat : Int) ≤ 57 := by have := HN.out; omega
              have f3 : decide ((s[k].toNat : Int) ≤ 57) = false := decide_eq_false e3
              by_cases q4 : n = 95
              · exfalso; omega
              · have e4 : ((s[k].toNat : Int) == 95) = false := by have := HN.out; simp; omega
                have hG := Lib.hid (HMore.out (HMt.out.2 (by omega)) (.inl (HLt.out.2 (by omega))))
                go_wp2
                go_roundw
                case rel => exact ⟨k + 1, _, by omega, by omega, rfl, by go_num, hG.out, by first | rfl | trivial⟩
                case measure => simp [intOf]; omega
          · exfalso; omega
        · have e1 : ¬ (s[k].toNat : Int) ≤ 122 := by have := HN.out; omega
          have f1 : decide ((s[k].toNat : Int) ≤ 122) = false := decide_eq_false e1
          by_cases q2 : 65 ≤ n
          · have e2 : (65 : Int) ≤ (s[k].toNat : Int) := by have := HN.out; omega
            have f2 : decide ((65 : Int) ≤ (s[k].toNat : Int)) = true := decide_eq_true e2
            by_cases q3 : n ≤ 90
            · exfalso; omega
            · have e3 : ¬ (s[k].toNat : Int) ≤ 90 := by have := HN.out; omega
              have f3 : decide ((s[k].toNat : Int) ≤ 90) = false := decide_eq_false e3
              by_cases q4 : 48 ≤ n
              · have e4 : (48 : Int) ≤ (s[k].toNat : Int) := by have := HN.out; omega
                have f4 : decide ((48 : Int) ≤ (s[k].toNat : Int)) = true := decide_eq_true e4
                by_cases q5 : n ≤ 57
                · exfalso; omega
                · have e5 : ¬ (s[k].toNat : Int) ≤ 57 := by have := HN.out; omega
                  have f5 : decide ((s[k].toNat : Int) ≤ 57) = false := decide_eq_false e5
                  by_cases q6 : n = 95
                  · exfalso; omega
                  · have e6 : ((s[k].toNat : Int) == 95) = false := by have := HN.out; simp; omega
                    go_wp2
                    go_roundw
                    case rel => exact ⟨k + 1, nm, by omega, by omega, rfl, by go_num, HG.out.same, by first | rfl | trivial⟩
                    case measure => simp [intOf]; omega
              · exfalso; omega
          · exfalso; omega
      · have e0 : ¬ (97 : Int) ≤ (s[k].toNat : Int) := by have := HN.out; omega
        have f0 : decide ((97 : Int) ≤ (s[k].toNat : Int)) = false := decide_eq_false e0
        by_cases q1 : 65 ≤ n
        · have e1 : (65 : Int) ≤ (s[k].toNat : Int) := by have := HN.out; omega
          have f1 : decide ((65 : Int) ≤ (s[k].toNat : Int)) = true := decide_eq_true e1
          by_cases q2 : n ≤ 90
          · have e2 : (s[k].toNat : Int) ≤ 90 := by have := HN.out; omega
            have f2 : decide ((s[k].toNat : Int) ≤ 90) = true := decide_eq_true e2
            by_cases q3 : 48 ≤ n
            · have e3 : (48 : Int) ≤ (s[k].toNat : Int) := by have := HN.out; omega
              have f3 : decide ((48 : Int) ≤ (s[k].toNat : Int)) = true := decide_eq_true e3
              by_cases q4 : n ≤ 57
              · exfalso; omega
              · have e4 : ¬ (s[k].toNat : Int) ≤ 57 := by have := HN.out; omega
                have f4 : decide ((s[k].toNat : Int) ≤ 57) = false := decide_eq_false e4
                by_cases q5 : n = 95
                · exfalso; omega
                · have e5 : ((s[k].toNat : Int) == 95) = false := by have := HN.out; simp; omega
                  have hG := Lib.hid (HMore.out (HMt.out.2 (by omega)) (.inl (HLt.out.2 (by omega))))
                  go_wp2
                  go_roundw
                  case rel => exact ⟨k + 1, _, by omega, by omega, rfl, by go_num, hG.out, by first | rfl | trivial⟩
                  case measure => simp [intOf]; omega
            · exfalso; omega
          · have e2 : ¬ (s[k].toNat : Int) ≤ 90 := by have := HN.out; omega
            have f2 : decide ((s[k].toNat : Int) ≤ 90) = false := decide_eq_false e2
            by_cases q3 : 48 ≤ n
            · have e3 : (48 : Int) ≤ (s[k].toNat : Int) := by have := HN.out; omega
              have f3 : decide ((48 : Int) ≤ (s[k].toNat : Int)) = true := decide_eq_true e3
              by_cases q4 : n ≤ 57
              · exfalso; omega
              · have e4 : ¬ (s[k].toNat : Int) ≤ 57 := by have := HN.out; omega
                have f4 : decide ((s[k].toNat : Int) ≤ 57) = false := decide_eq_false e4
                by_cases q5 : n = 95
                · have e5 : ((s[k].toNat : Int) == 95) = true := by have := HN.out; simp; omega
                  have Q5 := Lib.hid q5
                  clear q5
                  cases ez with
                  | true =>
                    go_wp2
                    go_roundw
                    case rel => exact ⟨k + 1, nm, by omega, by omega, rfl, by go_num, HG.out.same, by first | rfl | trivial⟩
                    case measure => simp [intOf]; omega
                  | false =>
                    have hG := Lib.hid (HMore.out (HMt.out.2 (by have := Q5.out; omega)) (.inr (by have := of_decide_eq_false HZ.out.symm; omega)))
                    go_wp2
                    go_roundw
                    case rel => exact ⟨k + 1, _, by omega, by omega, rfl, by go_num, hG.out, by first | rfl | trivial⟩
                    case measure => simp [intOf]; omega
                · have e5 : ((s[k].toNat : Int) == 95) = false := by have := HN.out; simp; omega
                  go_wp2
                  go_roundw
                  case rel => exact ⟨k + 1, nm, by omega, by omega, rfl, by go_num, HG.out.same, by first | rfl | trivial⟩
                  case measure => simp [intOf]; omega
            · exfalso; omega
        · have e1 : ¬ (65 : Int) ≤ (s[k].toNat : Int) := by have := HN.out; omega
          have f1 : decide ((65 : Int) ≤ (s[k].toNat : Int)) = false := decide_eq_false e1
          by_cases q2 : 48 ≤ n
          · have e2 : (48 : Int) ≤ (s[k].toNat : Int) := by have := HN.out; omega
            have f2 : decide ((48 : Int) ≤ (s[k].toNat : Int)) = true := decide_eq_true e2
            by_cases q3 : n ≤ 57
            · have e3 : (s[k].toNat : Int) ≤ 57 := by have := HN.out; omega
              have f3 : decide ((s[k].toNat : Int) ≤ 57) = true := decide_eq_true e3
              cases ez with
              | true =>
                go_wp2
                go_roundw
                case rel => exact ⟨k + 1, nm, by omega, by omega, rfl, by go_num, HG.out.same, by first | rfl | trivial⟩
                case measure => simp [intOf]; omega
              | false =>
                have hG := Lib.hid (HMore.out (HMt.out.2 (by omega)) (.inr (by have := of_decide_eq_false HZ.out.symm; omega)))
                go_wp2
                go_roundw
                case rel => exact ⟨k + 1, _, by omega, by omega, rfl, by go_num, hG.out, by first | rfl | trivial⟩
                case measure => simp [intOf]; omega
            · have e3 : ¬ (s[k].toNat : Int) ≤ 57 := by have := HN.out; omega
              have f3 : decide ((s[k].toNat : Int) ≤ 57) = false := decide_eq_false e3
              by_cases q4 : n = 95
              · exfalso; omega
              · have e4 : ((s[k].toNat : Int) == 95) = false := by have := HN.out; simp; omega
                go_wp2
                go_roundw
                case rel => exact ⟨k + 1, nm, by omega, by omega, rfl, by go_num, HG.out.same, by first | rfl | trivial⟩
                case measure => simp [intOf]; omega
          · have e2 : ¬ (48 : Int) ≤ (s[k].toNat : Int) := by have := HN.out; omega
            have f2 : decide ((48 : Int) ≤ (s[k].toNat : Int)) = false := decide_eq_false e2
            by_cases q3 : n = 95
            · exfalso; omega
            · have e3 : ((s[k].toNat : Int) == 95) = false := by have := HN.out; simp; omega
              go_wp2
              go_roundw
              case rel => exact ⟨k + 1, nm, by omega, by omega, rfl, by go_num, HG.out.same, by first | rfl | trivial⟩
              case measure => simp [intOf]; omega
    · have hcase : (¬ k < s.size) ∨ (k < s.size ∧ ¬ k < 20) := by omega
      have HE2 := HE1
      have hnm20 : nm.size ≤ 20 := Nat.le_trans HG.out.1 hk
      have hem := empty_iff nm
      by_cases h0 : nm.size = 0
      · rw [decide_eq_true h0] at hem
        clear h0
        rcases hcase with h1 | ⟨h1, h2⟩
        · have h1I : ¬ (k : Int) < (s.size : Int) := by omega
          have hd : decide ((k : Int) < (s.size : Int)) = false := decide_eq_false h1I
          go_wp2
          go_ret
          exact ⟨rfl, K1.out⟩
        · have h1I : (k : Int) < (s.size : Int) := by omega
          have h2I : ¬ (k : Int) < 20 := by omega
          have hd2 : decide ((k : Int) < 20) = false := decide_eq_false h2I
          go_wp2
          go_ret
          exact ⟨rfl, K1.out⟩
      · rw [decide_eq_false h0] at hem
        obtain ⟨c, r, hcr, hlt⟩ := HG.out.2.2 (by omega)
        have hall := HG.out.2.1
        rw [hcr] at hall
        have hlx := lex_name hlt hall 0
        rw [← hcr, len_size] at hlx
        have HX := Lib.hid (show ofL nm.data.toList = nm from (ofL_of rfl).symm)
        obtain ⟨l, hl⟩ : ∃ l : List UInt8, l = nm.data.toList := ⟨_, rfl⟩
        have WC := Lib.hid (fun w => word_any nm w)
        rw [← hl] at hlx HX WC
        have HL := Lib.hid hl
        clear hcr hlt hall hl
        cases hw : isWord l with
        | true =>
          rw [hw] at hlx WC
          rw [if_pos rfl] at hlx
          have AC := Lib.hid (all_ok nm (by omega) [⟨4, l, 0⟩, ⟨0, [], 0 + nm.size⟩] (by rw [← HL.out]; exact hlx) wr HE1.out)
          clear hw hlx
          rcases hcase with h1 | ⟨h1, h2⟩
          · have h1I : ¬ (k : Int) < (s.size : Int) := by omega
            have hd : decide ((k : Int) < (s.size : Int)) = false := decide_eq_false h1I
            go_wp2_with fail
            refine AC.out.mono ?_
            rintro e w3 ⟨A, c', rfl, hr, k3⟩
            have hr0 := hr (by simp)
            obtain ⟨b, off, rfl, hc⟩ := hr0
            have c0 : w3.cell? ⟨b, off, none⟩ = some (.int .i64 4) := (hc 0 (by simp)).1
            have c1 : w3.cell? ⟨b, off + 1, none⟩ = some (.string (ofL l)) := (hc 0 (by simp)).2.1
            rw [HX.out] at c1
            have hbl := cell_ltk c0
            have hlen : ([⟨4, l, 0⟩, ⟨0, [], 0 + nm.size⟩] : List Tok).length = 2 := rfl
            rw [hlen]
            have WC3 := Lib.hid (WC.out w3)
            have K3 := Lib.hid (K1.out.trans k3 (fun _ _ h => h))
            clear hr hc k3 AC hlen WC
            go_wp2_with fail
            refine WC3.out.mono ?_
            rintro e w4 ⟨rfl, k4⟩
            have d0 := (k4.cell hbl (fun h => h)).trans c0
            have d1 := (k4.cell hbl (fun h => h)).trans c1
            have K4 := Lib.hid (K3.out.trans k4 (fun _ _ h => h))
            clear c0 c1 k4
            go_wp2
            go_ret
            exact ⟨rfl, K4.out⟩
          · have h1I : (k : Int) < (s.size : Int) := by omega
            have h2I : ¬ (k : Int) < 20 := by omega
            have hd2 : decide ((k : Int) < 20) = false := decide_eq_false h2I
            go_wp2_with fail
            refine AC.out.mono ?_
            rintro e w3 ⟨A, c', rfl, hr, k3⟩
            have hr0 := hr (by simp)
            obtain ⟨b, off, rfl, hc⟩ := hr0
            have c0 : w3.cell? ⟨b, off, none⟩ = some (.int .i64 4) := (hc 0 (by simp)).1
            have c1 : w3.cell? ⟨b, off + 1, none⟩ = some (.string (ofL l)) := (hc 0 (by simp)).2.1
            rw [HX.out] at c1
            have hbl := cell_ltk c0
            have hlen : ([⟨4, l, 0⟩, ⟨0, [], 0 + nm.size⟩] : List Tok).length = 2 := rfl
            rw [hlen]
            have WC3 := Lib.hid (WC.out w3)
            have K3 := Lib.hid (K1.out.trans k3 (fun _ _ h => h))
            clear hr hc k3 AC hlen WC
            go_wp2_with fail
            refine WC3.out.mono ?_
            rintro e w4 ⟨rfl, k4⟩
            have d0 := (k4.cell hbl (fun h => h)).trans c0
            have d1 := (k4.cell hbl (fun h => h)).trans c1
            have K4 := Lib.hid (K3.out.trans k4 (fun _ _ h => h))
            clear c0 c1 k4
            go_wp2
            go_ret
            exact ⟨rfl, K4.out⟩
        | false =>
          rw [hw] at hlx WC
          rw [if_neg (by decide)] at hlx
          by_cases h8 : 8 < nm.size
          · have h8I : (8 : Int) < (nm.size : Int) := by omega
            have hd8 : decide ((8 : Int) < (nm.size : Int)) = true := decide_eq_true h8I
            rw [if_pos h8] at hlx
            have AC := Lib.hid (all_bad nm (by omega) 0 13 (by rw [← HL.out, hlx]) wr HE1.out)
            clear hw hlx
            rcases hcase with h1 | ⟨h1, h2⟩
            · have h1I : ¬ (k : Int) < (s.size : Int) := by omega
              have hd : decide ((k : Int) < (s.size : Int)) = false := decide_eq_false h1I
              go_wp2_with fail
              refine AC.out.mono ?_
              rintro e w3 ⟨rfl, k3⟩
              have WC3 := Lib.hid (WC.out w3)
              have K3 := Lib.hid (K1.out.trans k3 (fun _ _ h => h))
              clear k3 AC WC
              go_wp2_with fail
              refine WC3.out.mono ?_
              rintro e w4 ⟨rfl, k4⟩
              have K4 := Lib.hid (K3.out.trans k4 (fun _ _ h => h))
              clear k4
              go_wp2
              go_ret
              exact ⟨rfl, K4.out⟩
            · have h1I : (k : Int) < (s.size : Int) := by omega
              have h2I : ¬ (k : Int) < 20 := by omega
              have hd2 : decide ((k : Int) < 20) = false := decide_eq_false h2I
              go_wp2_with fail
              refine AC.out.mono ?_
              rintro e w3 ⟨rfl, k3⟩
              have WC3 := Lib.hid (WC.out w3)
              have K3 := Lib.hid (K1.out.trans k3 (fun _ _ h => h))
              clear k3 AC WC
              go_wp2_with fail
              refine WC3.out.mono ?_
              rintro e w4 ⟨rfl, k4⟩
              have K4 := Lib.hid (K3.out.trans k4 (fun _ _ h => h))
              clear k4
              go_wp2
              go_ret
              exact ⟨rfl, K4.out⟩
          · have h8I : ¬ (8 : Int) < (nm.size : Int) := by omega
            have hd8 : decide ((8 : Int) < (nm.size : Int)) = false := decide_eq_false h8I
            rw [if_neg h8] at hlx
            have AC := Lib.hid (all_ok nm (by omega) [⟨3, l, 0⟩, ⟨0, [], 0 + nm.size⟩] (by rw [← HL.out]; exact hlx) wr HE1.out)
            clear hw hlx
            rcases hcase with h1 | ⟨h1, h2⟩
            · have h1I : ¬ (k : Int) < (s.size : Int) := by omega
              have hd : decide ((k : Int) < (s.size : Int)) = false := decide_eq_false h1I
              go_wp2_with fail
              refine AC.out.mono ?_
              rintro e w3 ⟨A, c', rfl, hr, k3⟩
              have hr0 := hr (by simp)
              obtain ⟨b, off, rfl, hc⟩ := hr0
              have c0 : w3.cell? ⟨b, off, none⟩ = some (.int .i64 3) := (hc 0 (by simp)).1
              have c1 : w3.cell? ⟨b, off + 1, none⟩ = some (.string (ofL l)) := (hc 0 (by simp)).2.1
              rw [HX.out] at c1
              have hbl := cell_ltk c0
              have hlen : ([⟨3, l, 0⟩, ⟨0, [], 0 + nm.size⟩] : List Tok).length = 2 := rfl
              rw [hlen]
              have WC3 := Lib.hid (WC.out w3)
              have K3 := Lib.hid (K1.out.trans k3 (fun _ _ h => h))
              clear hr hc k3 AC hlen WC
              go_wp2_with fail
              refine WC3.out.mono ?_
              rintro e w4 ⟨rfl, k4⟩
              have d0 := (k4.cell hbl (fun h => h)).trans c0
              have d1 := (k4.cell hbl (fun h => h)).trans c1
              have K4 := Lib.hid (K3.out.trans k4 (fun _ _ h => h))
              clear c0 c1 k4
              go_wp2
              go_ret
              exact ⟨rfl, K4.out⟩
            · have h1I : (k : Int) < (s.size : Int) := by omega
              have h2I : ¬ (k : Int) < 20 := by omega
              have hd2 : decide ((k : Int) < 20) = false := decide_eq_false h2I
              go_wp2_with fail
              refine AC.out.mono ?_
              rintro e w3 ⟨A, c', rfl, hr, k3⟩
              have hr0 := hr (by simp)
              obtain ⟨b, off, rfl, hc⟩ := hr0
              have c0 : w3.cell? ⟨b, off, none⟩ = some (.int .i64 3) := (hc 0 (by simp)).1
              have c1 : w3.cell? ⟨b, off + 1, none⟩ = some (.string (ofL l)) := (hc 0 (by simp)).2.1
              rw [HX.out] at c1
              have hbl := cell_ltk c0
              have hlen : ([⟨3, l, 0⟩, ⟨0, [], 0 + nm.size⟩] : List Tok).length = 2 := rfl
              rw [hlen]
              have WC3 := Lib.hid (WC.out w3)
              have K3 := Lib.hid (K1.out.trans k3 (fun _ _ h => h))
              clear hr hc k3 AC hlen WC
              go_wp2_with fail
              refine WC3.out.mono ?_
              rintro e w4 ⟨rfl, k4⟩
              have d0 := (k4.cell hbl (fun h => h)).trans c0
              have d1 := (k4.cell hbl (fun h => h)).trans c1
              have K4 := Lib.hid (K3.out.trans k4 (fun _ _ h => h))
              clear c0 c1 k4
              go_wp2
              go_ret
              exact ⟨rfl, K4.out⟩

end Go.Proofs.YtoombjbpblighaaDoor
