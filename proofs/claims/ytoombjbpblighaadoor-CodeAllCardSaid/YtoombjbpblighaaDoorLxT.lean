/-
  Layer 1: the walk of LexTexts. Written by an AI agent.
-/
import Derived.Test.YtoombjbpblighaaDoorLxO
namespace Go.Proofs.YtoombjbpblighaaDoor
open Go.RowKit Go.Shelf
set_option linter.unusedVariables false
set_option linter.unusedSimpArgs false

def okc (c : UInt8) : Prop := 32 ≤ c.toNat ∧ c.toNat ≤ 126
theorem txc_of {c : UInt8} (h : c ≠ 34) : txc c = true ↔ okc c := by
  have h34 : c.toNat ≠ 34 := fun e => h (UInt8.toNat_inj.1 (e.trans (show 34 = (34 : UInt8).toNat from rfl)))
  unfold txc okc
  simp only [Bool.and_eq_true, decide_eq_true_eq, Bool.not_eq_true', decide_eq_false_iff_not]
  omega
theorem take_mem {l : List UInt8} {k : Nat} {c : UInt8} (h : l[k]? = some c) (d : UInt8) : d ∈ l.take (k + 1) ↔ d ∈ l.take k ∨ d = c := by
  obtain ⟨h1, h2⟩ := List.getElem?_eq_some_iff.1 h
  rw [List.take_succ_eq_append_getElem h1, List.mem_append, h2, List.mem_singleton]
theorem app_list (a b : ByteArray) : (a ++ b).data.toList = a.data.toList ++ b.data.toList := by simp

set_option maxRecDepth 100000 in
set_option maxHeartbeats 8000000 in
theorem texts_walk (s : ByteArray) (w : World) (he : ErrW w) : Calls Tryd.prog 9 #[.string s] w fun e w' => e = .returned (.bool true) ∧ Keeps (fun _ => False) w w' := by
  have SC := Lib.hid (shown_any w he)
  have HE := Lib.hid he
  clear he
  go_enter Tryd.func9, Tryd.ntmps9
  go_wp2_with fail
  refine SC.out.mono ?_
  rintro e w1 ⟨rfl, k1⟩
  have HE1 := Lib.hid (HE.out.keep k1)
  have K1 := Lib.hid k1
  clear k1 SC HE
  go_upto_if 16 with fail
  obtain ⟨d, hd⟩ : ∃ d : Bool, d = decide ((20 : Int) < (s.size : Int)) := ⟨_, rfl⟩
  rw [← hd]
  have HD := Lib.hid hd
  clear hd
  go_cut [0] from 17 to 18 (fun s0 wx => ∃ x : ByteArray, s0 = .string x ∧ x.size ≤ 20 ∧ wx = w1)
  case first =>
    cases d with
    | true =>
      have hI : (20 : Int) < (s.size : Int) := of_decide_eq_true HD.out.symm
      have hI2 : (20 : Int) ≤ (s.size : Int) := by omega
      go_wp2
      go_meet
      exact ⟨s.extract 0 20, rfl, by rw [ext_size s 20 (by omega)]; omega, rfl⟩
    | false =>
      have hI : ¬ (20 : Int) < (s.size : Int) := of_decide_eq_false HD.out.symm
      go_wp2
      go_meet
      exact ⟨s, rfl, by omega, rfl⟩
  case rest =>
    obtain ⟨x, rfl, hx20, rfl⟩ := hcut
    obtain ⟨l, hl⟩ : ∃ l : List UInt8, l = x.data.toList := ⟨_, rfl⟩
    have hln : l.length = x.size := by rw [hl, len_size]
    have HL := Lib.hid hl
    have HLN := Lib.hid hln
    clear hl hln
    go_wp2_with fail
    go_loopw [4, 5, 6] (fun s4 s5 s6 wr => ∃ (k : Nat) (f q : Bool), k ≤ x.size ∧ s4 = .bool f ∧ s5 = .bool q ∧ s6 = .int .i64 k ∧ (f = true ↔ ∀ c ∈ l.take k, okc c) ∧ (q = true ↔ (34 : UInt8) ∈ l.take k) ∧ Keeps (fun _ => False) wc wr) (fun _ _ s6 _ => x.size - (intOf s6).toNat)
    case atStart => exact ⟨0, true, false, Nat.zero_le _, rfl, rfl, rfl, ⟨fun _ c h => by simp at h, fun _ => rfl⟩, ⟨(fun h => by cases h), fun h => by simp at h⟩, Keeps.refl _ _⟩
    case round =>
      obtain ⟨k, f, q, hk, rfl, rfl, rfl, hf, hq, kr⟩ := hrel
      have HF := Lib.hid hf
      have HQ := Lib.hid hq
      have KR := Lib.hid kr
      clear hf hq kr
      by_cases hkN : k < x.size
      · have hkI : (k : Int) < (x.size : Int) := by omega
        have hk0 : (0 : Int) ≤ (k : Int) := by omega
        obtain ⟨c, hc⟩ : ∃ c : UInt8, c = x[k] := ⟨_, rfl⟩
        have hlk : l[k]? = some c := by rw [HL.out, hc]; exact at_byte x k hkN
        have hm := take_mem hlk
        obtain ⟨n, hn⟩ : ∃ n : Nat, n = x[k].toNat := ⟨_, rfl⟩
        have hnc : n = c.toNat := by rw [hn, hc]
        have h34 : (34 : UInt8) = c ↔ n = 34 := ⟨fun e => by rw [hnc, ← e]; rfl, fun e => UInt8.toNat_inj.1 (by rw [← hnc, e]; rfl)⟩
        have hF1 : ∀ f' : Bool, (f' = true ↔ f = true ∧ 32 ≤ n ∧ n ≤ 126) → (f' = true ↔ ∀ c ∈ l.take (k + 1), okc c) := fun f' h => by
          rw [h, HF.out]
          constructor
          · rintro ⟨h1, h2, h3⟩ d hd
            rcases (hm d).1 hd with h | rfl
            · exact h1 d h
            · exact ⟨by omega, by omega⟩
          · intro h1
            have h2 := h1 c ((hm c).2 (.inr rfl))
            exact ⟨fun d hd => h1 d ((hm d).2 (.inl hd)), by unfold okc at h2; omega, by unfold okc at h2; omega⟩
        have hQ1 : ∀ q' : Bool, (q' = true ↔ q = true ∨ n = 34) → (q' = true ↔ (34 : UInt8) ∈ l.take (k + 1)) := fun q' h => by
          rw [h, HQ.out, hm, h34]
        have HN := Lib.hid hn
        have HF1 := Lib.hid hF1
        have HQ1 := Lib.hid hQ1
        clear hc hlk hm hnc h34 hF1 hQ1 hn
        go_upto_region 9 with fail
        cases f with
        | false =>
          cases q with
          | true =>
            go_wp2
            go_roundw
            case rel => exact ⟨k + 1, false, true, by omega, rfl, rfl, by go_num, HF1.out false (by simp), HQ1.out true (by simp), KR.out⟩
            case measure => simp [intOf]; omega
          | false =>
            by_cases a3 : n = 34
            · have heq : ((x[k].toNat : Int) == 34) = true := by rw [← HN.out, a3]; rfl
              have HA := Lib.hid a3
              clear a3
              go_wp2
              go_roundw
              case rel => exact ⟨k + 1, false, true, by omega, rfl, rfl, by go_num, HF1.out false (by simp), HQ1.out true (by simp; have := HA.out; omega), KR.out⟩
              case measure => simp [intOf]; omega
            · have heq : ((x[k].toNat : Int) == 34) = false := by rw [← HN.out]; exact beq_eq_false_iff_ne.2 (by omega)
              go_wp2
              go_roundw
              case rel => exact ⟨k + 1, false, false, by omega, rfl, rfl, by go_num, HF1.out false (by simp), HQ1.out false (by simp; omega), KR.out⟩
              case measure => simp [intOf]; omega
        | true =>
          by_cases a1 : 32 ≤ n
          · have blo : (32 : Int) ≤ (x[k].toNat : Int) := by have := HN.out; omega
            have dlo : decide ((32 : Int) ≤ (x[k].toNat : Int)) = true := decide_eq_true blo
            by_cases a2 : n ≤ 126
            · have bhi : (x[k].toNat : Int) ≤ 126 := by have := HN.out; omega
              have dhi : decide ((x[k].toNat : Int) ≤ 126) = true := decide_eq_true bhi
              cases q with
              | true =>
                go_wp2
                go_roundw
                case rel => exact ⟨k + 1, true, true, by omega, rfl, rfl, by go_num, HF1.out true (by simp; omega), HQ1.out true (by simp), KR.out⟩
                case measure => simp [intOf]; omega
              | false =>
                by_cases a3 : n = 34
                · have heq : ((x[k].toNat : Int) == 34) = true := by rw [← HN.out, a3]; rfl
                  have HA := Lib.hid a3
                  clear a3
                  go_wp2
                  go_roundw
                  case rel => exact ⟨k + 1, true, true, by omega, rfl, rfl, by go_num, HF1.out true (by simp; have := HA.out; omega), HQ1.out true (by simp; have := HA.out; omega), KR.out⟩
                  case measure => simp [intOf]; omega
                · have heq : ((x[k].toNat : Int) == 34) = false := by rw [← HN.out]; exact beq_eq_false_iff_ne.2 (by omega)
                  go_wp2
                  go_roundw
                  case rel => exact ⟨k + 1, true, false, by omega, rfl, rfl, by go_num, HF1.out true (by simp; omega), HQ1.out false (by simp; omega), KR.out⟩
                  case measure => simp [intOf]; omega
            · have bhi : ¬ (x[k].toNat : Int) ≤ 126 := by have := HN.out; omega
              have dhi : decide ((x[k].toNat : Int) ≤ 126) = false := decide_eq_false bhi
              cases q with
              | true =>
                go_wp2
                go_roundw
                case rel => exact ⟨k + 1, false, true, by omega, rfl, rfl, by go_num, HF1.out false (by simp; omega), HQ1.out true (by simp), KR.out⟩
                case measure => simp [intOf]; omega
              | false =>
                by_cases a3 : n = 34
                · have heq : ((x[k].toNat : Int) == 34) = true := by rw [← HN.out, a3]; rfl
                  have HA := Lib.hid a3
                  clear a3
                  go_wp2
                  go_roundw
                  case rel => exact ⟨k + 1, false, true, by omega, rfl, rfl, by go_num, HF1.out false (by simp; have := HA.out; omega), HQ1.out true (by simp; have := HA.out; omega), KR.out⟩
                  case measure => simp [intOf]; omega
                · have heq : ((x[k].toNat : Int) == 34) = false := by rw [← HN.out]; exact beq_eq_false_iff_ne.2 (by omega)
                  go_wp2
                  go_roundw
                  case rel => exact ⟨k + 1, false, false, by omega, rfl, rfl, by go_num, HF1.out false (by simp; omega), HQ1.out false (by simp; omega), KR.out⟩
                  case measure => simp [intOf]; omega
          · have blo : ¬ (32 : Int) ≤ (x[k].toNat : Int) := by have := HN.out; omega
            have dlo : decide ((32 : Int) ≤ (x[k].toNat : Int)) = false := decide_eq_false blo
            cases q with
            | true =>
              go_wp2
              go_roundw
              case rel => exact ⟨k + 1, false, true, by omega, rfl, rfl, by go_num, HF1.out false (by simp; omega), HQ1.out true (by simp), KR.out⟩
              case measure => simp [intOf]; omega
            | false =>
              by_cases a3 : n = 34
              · have heq : ((x[k].toNat : Int) == 34) = true := by rw [← HN.out, a3]; rfl
                have HA := Lib.hid a3
                clear a3
                go_wp2
                go_roundw
                case rel => exact ⟨k + 1, false, true, by omega, rfl, rfl, by go_num, HF1.out false (by simp; have := HA.out; omega), HQ1.out true (by simp; have := HA.out; omega), KR.out⟩
                case measure => simp [intOf]; omega
              · have heq : ((x[k].toNat : Int) == 34) = false := by rw [← HN.out]; exact beq_eq_false_iff_ne.2 (by omega)
                go_wp2
                go_roundw
                case rel => exact ⟨k + 1, false, false, by omega, rfl, rfl, by go_num, HF1.out false (by simp; omega), HQ1.out false (by simp; omega), KR.out⟩
                case measure => simp [intOf]; omega
      · have hke : k = x.size := by omega
        have hkI : ¬ (k : Int) < (x.size : Int) := by omega
        have hd : decide ((k : Int) < (x.size : Int)) = false := decide_eq_false hkI
        have htk : l.take k = l := List.take_of_length_le (by rw [HLN.out, hke]; exact Nat.le_refl _)
        have hf := HF.out
        have hq := HQ.out
        rw [htk] at hf hq
        have HE2 := Lib.hid (HE1.out.keep KR.out)
        have K2 := Lib.hid (K1.out.trans KR.out (fun _ _ h => h))
        have HX := Lib.hid (show ofL l = x from (ofL_of HL.out.symm).symm)
        clear hke htk
        cases q with
        | true =>
          clear hf hq
          go_wp2
          go_ret
          exact ⟨rfl, K2.out⟩
        | false =>
          have hno : (34 : UInt8) ∉ l := fun h => by have := hq.2 h; cases this
          obtain ⟨y, hy⟩ : ∃ y : ByteArray, y = { data := #[34] } ++ x ++ { data := #[34] } := ⟨_, rfl⟩
          have hyl : y.data.toList = 34 :: (l ++ [34]) := by rw [hy, app_list, app_list, ← HL.out]; rfl
          have hys : y.size ≤ 600 := by rw [← len_size, hyl]; simp only [List.length_cons, List.length_append, List.length_nil]; have := HLN.out; omega
          obtain ⟨z, hz⟩ : ∃ z : ByteArray, z = { data := #[97, 32, 34] } ++ x := ⟨_, rfl⟩
          have hzl : z.data.toList = 97 :: 32 :: 34 :: l := by rw [hz, app_list, ← HL.out]; rfl
          have hzs : z.size ≤ 600 := by rw [← len_size, hzl]; simp only [List.length_cons]; have := HLN.out; omega
          have ZC : Hid (∀ w', ErrW w' → Calls Tryd.prog 17 #[.string z] w' fun e w'' => e = .returned (.tuple #[.slice none 0 0, .int .i64 2, .int .i64 11]) ∧ Keeps (fun _ => False) w' w'') := fun w' h => all_bad z hzs 2 11 (by rw [hzl]; exact lex_open hno) w' h
          have hlx := lex_text hno 0
          rw [← hyl] at hlx
          have HY := Lib.hid hy
          have HZ := Lib.hid hz
          cases f with
          | false =>
            have hnt : ¬ ∀ c ∈ l, txc c = true := fun h => by
              have : ∀ c ∈ l, okc c := fun c hc => (txc_of (fun e => hno (e ▸ hc))).1 (h c hc)
              have := hf.2 this
              cases this
            rw [if_neg hnt] at hlx
            have YC := Lib.hid (all_bad y hys 0 11 (by rw [hlx]) wr HE2.out)
            clear hf hq hno hyl hys hzl hzs hlx hnt hy hz
            go_wp2_with fail
            rw [← HY.out]
            refine YC.out.mono ?_
            rintro e w3 ⟨rfl, k3⟩
            have ZC3 := Lib.hid (ZC.out w3 (HE2.out.keep k3))
            have K3 := Lib.hid (K2.out.trans k3 (fun _ _ h => h))
            clear k3 YC ZC
            go_wp2_with fail
            rw [← HZ.out]
            refine ZC3.out.mono ?_
            rintro e w4 ⟨rfl, k4⟩
            have K4 := Lib.hid (K3.out.trans k4 (fun _ _ h => h))
            clear k4
            go_wp2
            go_ret
            exact ⟨rfl, K4.out⟩
          | true =>
            have hat : ∀ c ∈ l, txc c = true := fun c hc => (txc_of (fun e => hno (e ▸ hc))).2 (hf.1 rfl c hc)
            rw [if_pos hat] at hlx
            by_cases h12 : 12 < x.size
            · have h12I : (12 : Int) < (x.size : Int) := by omega
              have hd12 : decide ((12 : Int) < (x.size : Int)) = true := decide_eq_true h12I
              rw [if_pos (by rw [HLN.out]; exact h12)] at hlx
              have YC := Lib.hid (all_bad y hys 0 4 (by rw [hlx]) wr HE2.out)
              clear hf hq hno hyl hys hzl hzs hlx hat hy hz
              go_wp2_with fail
              rw [← HY.out]
              refine YC.out.mono ?_
              rintro e w3 ⟨rfl, k3⟩
              have ZC3 := Lib.hid (ZC.out w3 (HE2.out.keep k3))
              have K3 := Lib.hid (K2.out.trans k3 (fun _ _ h => h))
              clear k3 YC ZC
              go_wp2_with fail
              rw [← HZ.out]
              refine ZC3.out.mono ?_
              rintro e w4 ⟨rfl, k4⟩
              have K4 := Lib.hid (K3.out.trans k4 (fun _ _ h => h))
              clear k4
              go_wp2
              go_ret
              exact ⟨rfl, K4.out⟩
            · have h12I : ¬ (12 : Int) < (x.size : Int) := by omega
              have hd12 : decide ((12 : Int) < (x.size : Int)) = false := decide_eq_false h12I
              rw [if_neg (by rw [HLN.out]; exact h12)] at hlx
              have YC := Lib.hid (all_ok y hys _ hlx wr HE2.out)
              clear hf hq hno hyl hys hzl hzs hlx hat hy hz
              go_wp2_with fail
              rw [← HY.out]
              refine YC.out.mono ?_
              rintro e w3 ⟨A, c, rfl, hr, k3⟩
              have hr0 := (hr (by simp))
              obtain ⟨b, off, rfl, hc⟩ := hr0
              have c0 : w3.cell? ⟨b, off, none⟩ = some (.int .i64 2) := (hc 0 (by simp)).1
              have c1 : w3.cell? ⟨b, off + 1, none⟩ = some (.string (ofL l)) := (hc 0 (by simp)).2.1
              rw [HX.out] at c1
              have hbl := cell_ltk c0
              have hlen : ([⟨2, l, 0⟩, ⟨0, [], 0 + l.length + 2⟩] : List Tok).length = 2 := rfl
              rw [hlen]
              have ZC3 := Lib.hid (ZC.out w3 (HE2.out.keep k3))
              have K3 := Lib.hid (K2.out.trans k3 (fun _ _ h => h))
              clear hr hc k3 YC ZC hlen
              go_wp2_with fail
              rw [← HZ.out]
              refine ZC3.out.mono ?_
              rintro e w4 ⟨rfl, k4⟩
              have d0 := (k4.cell hbl (fun h => h)).trans c0
              have d1 := (k4.cell hbl (fun h => h)).trans c1
              have K4 := Lib.hid (K3.out.trans k4 (fun _ _ h => h))
              clear c0 c1 k4
              go_wp2
              go_ret
              exact ⟨rfl, K4.out⟩

end Go.Proofs.YtoombjbpblighaaDoor
