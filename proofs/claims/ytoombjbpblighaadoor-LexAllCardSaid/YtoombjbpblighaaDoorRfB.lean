/-
  Layer 1: the contract of the document's text. Written by an AI agent.
-/
import Derived.Test.YtoombjbpblighaaDoorRfA
namespace Go.Proofs.YtoombjbpblighaaDoor
open Go.RowKit Go.Shelf
set_option linter.unusedVariables false
set_option linter.unusedSimpArgs false

theorem run_step {p : UInt8 → Bool} {r : List UInt8} {k : Nat} (hk : k ≤ runL p r) : (∀ c, r[k]? = some c → (p c = true → k + 1 ≤ runL p r) ∧ (p c = false → k = runL p r)) ∧ (r[k]? = none → k = runL p r) := by
  refine ⟨fun c hc => ⟨fun hp => ?_, fun hp => ?_⟩, fun hn => ?_⟩
  · rcases Nat.lt_or_ge k (runL p r) with h | h
    · exact h
    · exfalso
      have e : k = runL p r := by omega
      rw [e] at hc
      have := runL_stop p r c hc
      rw [hp] at this
      cases this
  · rcases Nat.lt_or_ge k (runL p r) with h | h
    · exfalso
      obtain ⟨h1, h2⟩ := List.getElem?_eq_some_iff.1 hc
      have h3 : (r.take (runL p r))[k]? = some c := by rw [List.getElem?_take, if_pos h]; exact hc
      have := runL_all p r c (List.mem_of_getElem? h3)
      rw [hp] at this
      cases this
    · omega
  · have h1 := List.getElem?_eq_none_iff.1 hn
    have h2 := runL_le p r
    omega
theorem at_drop (s : ByteArray) (i k : Nat) (h : i + k < s.size) : (s.data.toList.drop i)[k]? = some s[i + k] := by
  rw [List.getElem?_drop]
  exact at_byte s (i + k) h

theorem ext_mid2 (s : ByteArray) (a b : Nat) : (s.extract a b).data.toList = (s.data.toList.drop a).take (b - a) := by simp

/-- What text tells. -/
def TextR (r : List UInt8) (i : Nat) (T : ByteArray) (en er : Nat) : Prop := er = (textL r).2.2 ∧ (er = 0 → T.data.toList = r.take (runL txc r) ∧ en = i + (runL txc r + 2) ∧ textL r = (2, runL txc r + 2, 0))
theorem textR_bad {r : List UInt8} (i : Nat) (h : r[runL txc r]? ≠ some 34) : TextR r i { data := #[] } i 11 := by
  have e : textL r = (0, 0, 11) := by unfold textL; rw [if_neg h]
  exact ⟨by rw [e], fun h => by cases h⟩
theorem textR_long {r : List UInt8} (i : Nat) (h : r[runL txc r]? = some 34) (h2 : 12 < runL txc r) : TextR r i { data := #[] } i 4 := by
  have e : textL r = (0, 0, 4) := by unfold textL; rw [if_pos h, if_pos h2]
  exact ⟨by rw [e], fun h => by cases h⟩
theorem textR_ok {r : List UInt8} (i : Nat) (h : r[runL txc r]? = some 34) (h2 : ¬ 12 < runL txc r) (T : ByteArray) (hT : T.data.toList = r.take (runL txc r)) : TextR r i T (i + (runL txc r + 2)) 0 := by
  have e : textL r = (2, runL txc r + 2, 0) := by unfold textL; rw [if_pos h, if_neg h2]
  exact ⟨by rw [e], fun _ => ⟨hT, rfl, e⟩⟩

set_option maxRecDepth 100000 in
set_option maxHeartbeats 4000000 in
theorem rtext_any (s : ByteArray) (hs : s.size ≤ 1000) (i : Nat) (hi : i < s.size) (w : World) : Calls Tryd.prog 75 #[.string s, .int .i64 i] w fun e w' => (∃ T en er, e = .returned (.tuple #[.string T, .int .i64 ((en : Nat) : Int), .int .i64 ((er : Nat) : Int)]) ∧ TextR (s.data.toList.drop (i + 1)) i T en er) ∧ w' = w := by
  obtain ⟨r, hr⟩ : ∃ r : List UInt8, r = s.data.toList.drop (i + 1) := ⟨_, rfl⟩
  have hrl : r.length = s.size - (i + 1) := by rw [hr, List.length_drop, len_size]
  rw [← hr]
  have HR := Lib.hid hr
  have HRL := Lib.hid hrl
  clear hr hrl
  go_enter Tryd.func75, Tryd.ntmps75
  go_wp2_with fail
  go_loopw [7] (fun s7 wr => ∃ (k P : Nat), P = i + 1 + k ∧ P ≤ s.size ∧ s7 = .int .i64 P ∧ k ≤ runL txc r ∧ wr = w) (fun s7 _ => s.size + 1 - (intOf s7).toNat)
  case atStart => exact ⟨0, i + 1, rfl, by omega, by go_num, by omega, rfl⟩
  case round =>
    obtain ⟨k, P, hP, hPs, rfl, hk, hw⟩ := hrel
    obtain rfl : w = wr := hw.symm
    clear hw
    obtain ⟨st1, st2⟩ := run_step hk
    have sw1 : IntKind.i64.wrap ((P : Int) - (i : Int)) = (k : Int) + 1 := by rw [IntWalk.i64_in _ (by omega)]; omega
    have sw2 : (P : Int) - (i : Int) = (k : Int) + 1 := by omega
    by_cases hN : P < s.size
    · have hNI : (P : Int) < (s.size : Int) := by omega
      have hNd : decide ((P : Int) < (s.size : Int)) = true := decide_eq_true hNI
      have hNg : ¬ (s.size : Int) ≤ (P : Int) := by omega
      have hNgd : decide ((s.size : Int) ≤ (P : Int)) = false := decide_eq_false hNg
      have hP0 : (0 : Int) ≤ (P : Int) := by omega
      have hc : r[k]? = some s[P] := by
        have h1 := at_drop s (i + 1) k (by omega)
        rw [HR.out, h1]
        congr 1
        congr 1
        exact hP.symm
      have h2 := st1 _ hc
      obtain ⟨n, hn⟩ : ∃ n : Nat, n = s[P].toNat := ⟨_, rfl⟩
      have hx : txc s[P] = true ↔ (32 ≤ n ∧ n ≤ 126) ∧ n ≠ 34 := by
        unfold txc
        rw [← hn]
        simp
      have h34 : n = 34 → s[P] = 34 := fun h => UInt8.toNat_inj.1 (by rw [← hn, h]; rfl)
      have HX := Lib.hid hx
      have H2 := Lib.hid h2
      have HC := Lib.hid hc
      have H34 := Lib.hid h34
      have HP := Lib.hid hP
      have HNe := Lib.hid hn
      clear hx h2 hc h34 st1 st2 hP hn
      have hgo : ∀ b : Bool, ((b = true) ↔ (32 ≤ n ∧ n ≤ 126) ∧ n ≠ 34) → txc s[P] = b := fun b hb => by
        rw [Bool.eq_iff_iff, HX.out, hb]
      by_cases a1 : 32 ≤ n
      · have e1 : (32 : Int) ≤ (s[P].toNat : Int) := by have := HNe.out; omega
        have d1 : decide ((32 : Int) ≤ (s[P].toNat : Int)) = true := decide_eq_true e1
        by_cases a2 : n ≤ 126
        · have e2 : (s[P].toNat : Int) ≤ 126 := by have := HNe.out; omega
          have d2 : decide ((s[P].toNat : Int) ≤ 126) = true := decide_eq_true e2
          by_cases a3 : n = 34
          · have e3 : ((s[P].toNat : Int) != 34) = false := by have := HNe.out; simp; omega
            have hk2 : k = runL txc r := H2.out.2 (hgo false (by simp; omega))
            have hq : r[runL txc r]? = some 34 := by rw [← hk2, HC.out, H34.out a3]
            by_cases h12 : 12 < k
            · have h12I : (12 : Int) < (k : Int) := by omega
              have h12d : decide ((12 : Int) < (k : Int)) = true := decide_eq_true h12I
              have HT := Lib.hid (textR_long i hq (by omega))
              have A3 := Lib.hid a3
              clear hq hk2 a3 hgo
              go_wp2
              go_ret3
              exact ⟨⟨_, i, 4, rfl, HT.out⟩, rfl⟩
            · have h12I : ¬ (12 : Int) < (k : Int) := by omega
              have h12d : decide ((12 : Int) < (k : Int)) = false := decide_eq_false h12I
              have hT : (s.extract (i + 1) P).data.toList = r.take (runL txc r) := by
                rw [ext_mid2, ← HR.out, HP.out, ← hk2]
                congr 1
                omega
              have HT := Lib.hid (textR_ok i hq (by omega) _ hT)
              rw [← hk2] at HT
              have hi1 : (0 : Int) ≤ (i : Int) + 1 := by omega
              have hiP : (i : Int) + 1 ≤ (P : Int) := by have := HP.out; omega
              have hPs2 : (P : Int) ≤ (s.size : Int) := by omega
              have ti : ((i : Int) + 1).toNat = i + 1 := by omega
              have A3 := Lib.hid a3
              have hend : (P : Int) + 1 = ((i + (k + 2) : Nat) : Int) := by have := HP.out; omega
              have HE := Lib.hid hend
              clear hq hk2 a3 hgo hT hend
              go_wp2
              go_ret3
              exact ⟨⟨_, i + (k + 2), 0, by rw [← HE.out]; rfl, HT.out⟩, rfl⟩
          · have e3 : ((s[P].toNat : Int) != 34) = true := by have := HNe.out; simp; omega
            have hk2 : k + 1 ≤ runL txc r := H2.out.1 (hgo true (by simp; omega))
            have A3 := Lib.hid a3
            clear a3 hgo
            go_wp2
            go_roundw
            case rel => exact ⟨k + 1, P + 1, by have := HP.out; omega, by omega, by go_num, hk2, by first | rfl | trivial⟩
            case measure => simp [intOf]; omega
        · have e2 : ¬ (s[P].toNat : Int) ≤ 126 := by have := HNe.out; omega
          have d2 : decide ((s[P].toNat : Int) ≤ 126) = false := decide_eq_false e2
          have e3 : ((s[P].toNat : Int) != 34) = true := by have := HNe.out; simp; omega
          have hk2 : k = runL txc r := H2.out.2 (hgo false (by simp; omega))
          have HT := Lib.hid (textR_bad (r := r) i (by rw [← hk2, HC.out]; intro h; have := HNe.out; rw [Option.some.inj h] at this; have : n = 34 := this; omega))
          clear hk2 hgo
          go_wp2
          go_ret3
          exact ⟨⟨_, i, 11, rfl, HT.out⟩, rfl⟩
      · have e1 : ¬ (32 : Int) ≤ (s[P].toNat : Int) := by have := HNe.out; omega
        have d1 : decide ((32 : Int) ≤ (s[P].toNat : Int)) = false := decide_eq_false e1
        have e3 : ((s[P].toNat : Int) != 34) = true := by have := HNe.out; simp; omega
        have hk2 : k = runL txc r := H2.out.2 (hgo false (by simp; omega))
        have HT := Lib.hid (textR_bad (r := r) i (by rw [← hk2, HC.out]; intro h; have := HNe.out; rw [Option.some.inj h] at this; have : n = 34 := this; omega))
        clear hk2 hgo
        go_wp2
        go_ret3
        exact ⟨⟨_, i, 11, rfl, HT.out⟩, rfl⟩
    · have hNd : decide ((P : Int) < (s.size : Int)) = false := decide_eq_false (by omega)
      have hNg : (s.size : Int) ≤ (P : Int) := by omega
      have hNgd : decide ((s.size : Int) ≤ (P : Int)) = true := decide_eq_true hNg
      have hkn : r[k]? = none := List.getElem?_eq_none_iff.2 (by rw [HRL.out]; omega)
      have hk2 := st2 hkn
      have HT := Lib.hid (textR_bad (r := r) i (by rw [← hk2, hkn]; intro h; cases h))
      clear hk2 hkn st1 st2
      go_wp2
      go_ret3
      exact ⟨⟨_, i, 11, rfl, HT.out⟩, rfl⟩

end Go.Proofs.YtoombjbpblighaaDoor
