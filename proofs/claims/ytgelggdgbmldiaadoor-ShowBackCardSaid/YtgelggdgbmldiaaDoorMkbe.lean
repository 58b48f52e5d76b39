/-
  Layer 1: the contract of the document's text. Written by an AI agent.
  Layer 1: the contract of the document's sign. Written by an AI agent.
  Layer 1: the contract of the document's skip. Written by an AI agent.
  Layer 1: the contract of the document's token at a place: numbers. Written by an AI agent.
-/
import Derived.Test.YtgelggdgbmldiaaDoorMkax
namespace Go.Proofs.YtgelggdgbmldiaaDoor
open Go.RowKit Go.Shelf
set_option linter.unusedVariables false
set_option linter.unusedSimpArgs false
theorem run_step {p : UInt8 → Bool} {r : List UInt8} {k : Nat} (hk : k ≤ runL p r) : (∀ c, r[k]? = some c → (p c = true → k + 1 ≤ runL p r) ∧ (p c = false → k = runL p r)) ∧ (r[k]? = none → k = runL p r) := by
  refine ⟨fun c hc => ⟨fun hp => ?_, fun hp => ?_⟩, fun hn => ?_⟩
  · rcases Nat.lt_or_ge k (runL p r) with h | h
    · exact h
    · exfalso
      have e : k = runL p r := by omega
      rw [e] at hc
      have := runL_stop p r c hc
      rw [hp] at this
      cases this
  · rcases Nat.lt_or_ge k (runL p r) with h | h
    · exfalso
      obtain ⟨h1, h2⟩ := List.getElem?_eq_some_iff.1 hc
      have h3 : (r.take (runL p r))[k]? = some c := by rw [List.getElem?_take, if_pos h]; exact hc
      have := runL_all p r c (List.mem_of_getElem? h3)
      rw [hp] at this
      cases this
    · omega
  · have h1 := List.getElem?_eq_none_iff.1 hn
    have h2 := runL_le p r
    omega
theorem at_drop (s : ByteArray) (i k : Nat) (h : i + k < s.size) : (s.data.toList.drop i)[k]? = some s[i + k] := by
  rw [List.getElem?_drop]
  exact at_byte s (i + k) h
theorem ext_mid2 (s : ByteArray) (a b : Nat) : (s.extract a b).data.toList = (s.data.toList.drop a).take (b - a) := by simp
/-- What text tells. -/
def TextR (r : List UInt8) (i : Nat) (T : ByteArray) (en er : Nat) : Prop := er = (textL r).2.2 ∧ (er = 0 → T.data.toList = r.take (runL txc r) ∧ en = i + (runL txc r + 2) ∧ textL r = (2, runL txc r + 2, 0))
theorem textR_bad {r : List UInt8} (i : Nat) (h : r[runL txc r]? ≠ some 34) : TextR r i { data := #[] } i 11 := by
  have e : textL r = (0, 0, 11) := by unfold textL; rw [if_neg h]
  exact ⟨by rw [e], fun h => by cases h⟩
theorem textR_long {r : List UInt8} (i : Nat) (h : r[runL txc r]? = some 34) (h2 : 12 < runL txc r) : TextR r i { data := #[] } i 4 := by
  have e : textL r = (0, 0, 4) := by unfold textL; rw [if_pos h, if_pos h2]
  exact ⟨by rw [e], fun h => by cases h⟩
theorem textR_ok {r : List UInt8} (i : Nat) (h : r[runL txc r]? = some 34) (h2 : ¬ 12 < runL txc r) (T : ByteArray) (hT : T.data.toList = r.take (runL txc r)) : TextR r i T (i + (runL txc r + 2)) 0 := by
  have e : textL r = (2, runL txc r + 2, 0) := by unfold textL; rw [if_pos h, if_neg h2]
  exact ⟨by rw [e], fun _ => ⟨hT, rfl, e⟩⟩
set_option maxRecDepth 100000 in
set_option maxHeartbeats 4000000 in
theorem rtext_any (s : ByteArray) (hs : s.size ≤ 1000) (i : Nat) (hi : i < s.size) (w : World) : Calls Tryd.prog 90 #[.string s, .int .i64 i] w fun e w' => (∃ T en er, e = .returned (.tuple #[.string T, .int .i64 ((en : Nat) : Int), .int .i64 ((er : Nat) : Int)]) ∧ TextR (s.data.toList.drop (i + 1)) i T en er) ∧ w' = w := by
  obtain ⟨r, hr⟩ : ∃ r : List UInt8, r = s.data.toList.drop (i + 1) := ⟨_, rfl⟩
  have hrl : r.length = s.size - (i + 1) := by rw [hr, List.length_drop, len_size]
  rw [← hr]
  have HR := Lib.hid hr
  have HRL := Lib.hid hrl
  clear hr hrl
  go_enter Tryd.func90, Tryd.ntmps90
  go_wp2_with fail
  go_loopw [7] (fun s7 wr => ∃ (k P : Nat), P = i + 1 + k ∧ P ≤ s.size ∧ s7 = .int .i64 P ∧ k ≤ runL txc r ∧ wr = w) (fun s7 _ => s.size + 1 - (intOf s7).toNat)
  case atStart => exact ⟨0, i + 1, rfl, by omega, by go_num, by omega, rfl⟩
  case round =>
    obtain ⟨k, P, hP, hPs, rfl, hk, hw⟩ := hrel
    obtain rfl : w = wr := hw.symm
    clear hw
    obtain ⟨st1, st2⟩ := run_step hk
    have sw1 : IntKind.i64.wrap ((P : Int) - (i : Int)) = (k : Int) + 1 := by rw [IntWalk.i64_in _ (by omega)]; omega
    have sw2 : (P : Int) - (i : Int) = (k : Int) + 1 := by omega
    by_cases hN : P < s.size
    · have hNI : (P : Int) < (s.size : Int) := by omega
      have hNd : decide ((P : Int) < (s.size : Int)) = true := decide_eq_true hNI
      have hNg : ¬ (s.size : Int) ≤ (P : Int) := by omega
      have hNgd : decide ((s.size : Int) ≤ (P : Int)) = false := decide_eq_false hNg
      have hP0 : (0 : Int) ≤ (P : Int) := by omega
      have hc : r[k]? = some s[P] := by
        have h1 := at_drop s (i + 1) k (by omega)
        rw [HR.out, h1]
        congr 1
        congr 1
        exact hP.symm
      have h2 := st1 _ hc
      obtain ⟨n, hn⟩ : ∃ n : Nat, n = s[P].toNat := ⟨_, rfl⟩
      have hx : txc s[P] = true ↔ (32 ≤ n ∧ n ≤ 126) ∧ n ≠ 34 := by
        unfold txc
        rw [← hn]
        simp
      have h34 : n = 34 → s[P] = 34 := fun h => UInt8.toNat_inj.1 (by rw [← hn, h]; rfl)
      have HX := Lib.hid hx
      have H2 := Lib.hid h2
      have HC := Lib.hid hc
      have H34 := Lib.hid h34
      have HP := Lib.hid hP
      have HNe := Lib.hid hn
      clear hx h2 hc h34 st1 st2 hP hn
      have hgo : ∀ b : Bool, ((b = true) ↔ (32 ≤ n ∧ n ≤ 126) ∧ n ≠ 34) → txc s[P] = b := fun b hb => by
        rw [Bool.eq_iff_iff, HX.out, hb]
      by_cases a1 : 32 ≤ n
      · have e1 : (32 : Int) ≤ (s[P].toNat : Int) := by have := HNe.out; omega
        have d1 : decide ((32 : Int) ≤ (s[P].toNat : Int)) = true := decide_eq_true e1
        by_cases a2 : n ≤ 126
        · have e2 : (s[P].toNat : Int) ≤ 126 := by have := HNe.out; omega
          have d2 : decide ((s[P].toNat : Int) ≤ 126) = true := decide_eq_true e2
          by_cases a3 : n = 34
          · have e3 : ((s[P].toNat : Int) != 34) = false := by have := HNe.out; simp; omega
            have hk2 : k = runL txc r := H2.out.2 (hgo false (by simp; omega))
            have hq : r[runL txc r]? = some 34 := by rw [← hk2, HC.out, H34.out a3]
            by_cases h12 : 12 < k
            · have h12I : (12 : Int) < (k : Int) := by omega
              have h12d : decide ((12 : Int) < (k : Int)) = true := decide_eq_true h12I
              have HT := Lib.hid (textR_long i hq (by omega))
              have A3 := Lib.hid a3
              clear hq hk2 a3 hgo
              go_wp2
              go_ret3
              exact ⟨⟨_, i, 4, rfl, HT.out⟩, rfl⟩
            · have h12I : ¬ (12 : Int) < (k : Int) := by omega
              have h12d : decide ((12 : Int) < (k : Int)) = false := decide_eq_false h12I
              have hT : (s.extract (i + 1) P).data.toList = r.take (runL txc r) := by
                rw [ext_mid2, ← HR.out, HP.out, ← hk2]
                congr 1
                omega
              have HT := Lib.hid (textR_ok i hq (by omega) _ hT)
              rw [← hk2] at HT
              have hi1 : (0 : Int) ≤ (i : Int) + 1 := by omega
              have hiP : (i : Int) + 1 ≤ (P : Int) := by have := HP.out; omega
              have hPs2 : (P : Int) ≤ (s.size : Int) := by omega
              have ti : ((i : Int) + 1).toNat = i + 1 := by omega
              have A3 := Lib.hid a3
              have hend : (P : Int) + 1 = ((i + (k + 2) : Nat) : Int) := by have := HP.out; omega
              have HE := Lib.hid hend
              clear hq hk2 a3 hgo hT hend
              go_wp2
              go_ret3
              exact ⟨⟨_, i + (k + 2), 0, by rw [← HE.out]; rfl, HT.out⟩, rfl⟩
          · have e3 : ((s[P].toNat : Int) != 34) = true := by have := HNe.out; simp; omega
            have hk2 : k + 1 ≤ runL txc r := H2.out.1 (hgo true (by simp; omega))
            have A3 := Lib.hid a3
            clear a3 hgo
            go_wp2
            go_roundw
            case rel => exact ⟨k + 1, P + 1, by have := HP.out; omega, by omega, by go_num, hk2, by first | rfl | trivial⟩
            case measure => simp [intOf]; omega
        · have e2 : ¬ (s[P].toNat : Int) ≤ 126 := by have := HNe.out; omega
          have d2 : decide ((s[P].toNat : Int) ≤ 126) = false := decide_eq_false e2
          have e3 : ((s[P].toNat : Int) != 34) = true := by have := HNe.out; simp; omega
          have hk2 : k = runL txc r := H2.out.2 (hgo false (by simp; omega))
          have HT := Lib.hid (textR_bad (r := r) i (by rw [← hk2, HC.out]; intro h; have := HNe.out; rw [Option.some.inj h] at this; have : n = 34 := this; omega))
          clear hk2 hgo
          go_wp2
          go_ret3
          exact ⟨⟨_, i, 11, rfl, HT.out⟩, rfl⟩
      · have e1 : ¬ (32 : Int) ≤ (s[P].toNat : Int) := by have := HNe.out; omega
        have d1 : decide ((32 : Int) ≤ (s[P].toNat : Int)) = false := decide_eq_false e1
        have e3 : ((s[P].toNat : Int) != 34) = true := by have := HNe.out; simp; omega
        have hk2 : k = runL txc r := H2.out.2 (hgo false (by simp; omega))
        have HT := Lib.hid (textR_bad (r := r) i (by rw [← hk2, HC.out]; intro h; have := HNe.out; rw [Option.some.inj h] at this; have : n = 34 := this; omega))
        clear hk2 hgo
        go_wp2
        go_ret3
        exact ⟨⟨_, i, 11, rfl, HT.out⟩, rfl⟩
    · have hNd : decide ((P : Int) < (s.size : Int)) = false := decide_eq_false (by omega)
      have hNg : (s.size : Int) ≤ (P : Int) := by omega
      have hNgd : decide ((s.size : Int) ≤ (P : Int)) = true := decide_eq_true hNg
      have hkn : r[k]? = none := List.getElem?_eq_none_iff.2 (by rw [HRL.out]; omega)
      have hk2 := st2 hkn
      have HT := Lib.hid (textR_bad (r := r) i (by rw [← hk2, hkn]; intro h; cases h))
      clear hk2 hkn st1 st2
      go_wp2
      go_ret3
      exact ⟨⟨_, i, 11, rfl, HT.out⟩, rfl⟩
end Go.Proofs.YtgelggdgbmldiaaDoor

namespace Go.Proofs.YtgelggdgbmldiaaDoor
open Go.RowKit Go.Shelf
set_option linter.unusedVariables false
set_option linter.unusedSimpArgs false
def signS (l : List UInt8) : List UInt8 := if isTwo l then l.take 2 else if onesL.contains (l.headD 0) then l.take 1 else []
theorem two_get (l : List UInt8) : isTwo l = true ↔ ∃ k, k < 5 ∧ 2 ≤ l.length ∧ twosL.getD k [] = l.take 2 := by
  have hk : ∀ k, k < 5 → (twosL.getD k []).length = 2 := by decide
  unfold isTwo
  rw [List.any_eq_true]
  constructor
  · rintro ⟨t, ht, hp⟩
    obtain ⟨k, hk1, e⟩ := List.mem_iff_getElem.1 ht
    have e2 : twosL.getD k [] = t := by rw [← e]; simp [List.getD, hk1]
    have h2 := hk k hk1
    rw [e2] at h2
    obtain ⟨r, hr⟩ := List.isPrefixOf_iff_prefix.1 hp
    refine ⟨k, hk1, by rw [← hr, List.length_append]; omega, ?_⟩
    rw [e2, ← hr, ← h2, List.take_left]
  · rintro ⟨k, hk1, h2, e⟩
    have hk2 : k < twosL.length := hk1
    refine ⟨twosL.getD k [], ?_, ?_⟩
    · have : twosL.getD k [] = twosL[k] := by simp [List.getD, hk2]
      rw [this]
      exact List.getElem_mem hk2
    · rw [e]
      exact List.isPrefixOf_iff_prefix.2 (List.take_prefix 2 l)
def oneB : ByteArray := { data := #[40, 41, 123, 125, 91, 93, 44, 59, 61, 60, 43, 45, 42, 47, 37, 33] }
theorem one_get (c : UInt8) : onesL.contains c = true ↔ ∃ k, ∃ h : k < oneB.size, oneB[k] = c := by
  rw [List.contains_iff_mem, List.mem_iff_getElem]
  constructor
  · rintro ⟨k, hk, e⟩
    exact ⟨k, hk, e⟩
  · rintro ⟨k, hk, e⟩
    exact ⟨k, hk, e⟩
set_option maxRecDepth 100000 in
set_option maxHeartbeats 4000000 in
theorem rsign_any (s : ByteArray) (hs : s.size ≤ 1000) (h1 : 0 < s.size) (w : World) : Calls Tryd.prog 91 #[.string s] w fun e w' => (∃ T : ByteArray, e = .returned (.string T) ∧ T.data.toList = signS s.data.toList) ∧ Keeps (fun _ => False) w w' := by
  obtain ⟨l, hl⟩ : ∃ l : List UInt8, l = s.data.toList := ⟨_, rfl⟩
  have hlen : l.length = s.size := by rw [hl, len_size]
  have h0 : l[0]? = some s[0] := by rw [hl]; exact at_byte s 0 h1
  rw [← hl]
  have HL := Lib.hid hl
  have HLN := Lib.hid hlen
  have H0 := Lib.hid h0
  clear hl hlen h0
  go_enter Tryd.func91, Tryd.ntmps91
  go_wp2_with fail
  generalize hwA : w.alloc _ = wA
  have kA : Keeps (fun _ => False) w wA := by rw [← hwA]; exact (Keeps.refl _ _).alloc _
  have hc : ∀ k, k < 5 → wA.cell? ⟨w.heap.size, k, none⟩ = some (.string (ofL (twosL.getD k []))) := fun k hk => by
    have h16 : k = 0 ∨ k = 1 ∨ k = 2 ∨ k = 3 ∨ k = 4 := by omega
    rw [← hwA]
    rcases h16 with rfl | rfl | rfl | rfl | rfl <;> (simp; rfl)
  obtain ⟨B, hB⟩ : ∃ B, B = w.heap.size := ⟨_, rfl⟩
  rw [← hB] at hc ⊢
  have KA := Lib.hid kA
  have HC := Lib.hid hc
  clear hwA kA hc hB
  have h2d : ∀ b, b = decide ((2 : Int) ≤ (s.size : Int)) → True := fun _ _ => trivial
  go_loopw [4] (fun s4 wr => ∃ (k n : Nat), k ≤ 5 ∧ s4 = .int .i64 k ∧ (∀ j, j < k → 2 ≤ l.length → twosL.getD j [] ≠ l.take 2) ∧ wr = wA.drewN n) (fun s4 _ => 6 - (intOf s4).toNat)
  case atStart => exact ⟨0, 0, Nat.zero_le _, rfl, fun j h => by omega, rfl⟩
  case round =>
    obtain ⟨k, n, hk, rfl, hno, hw⟩ := hrel
    have HW := Lib.hid hw
    have HNO := Lib.hid hno
    have kr : Keeps (fun _ => False) w wr := KA.out.trans (by rw [hw]; exact drew_keeps wA n) (fun _ _ h => h)
    have KR := Lib.hid kr
    clear hw hno kr h2d
    by_cases h5 : k < 5
    · have h5I : (k : Int) < 5 := by omega
      have h5d : decide ((k : Int) < 5) = true := decide_eq_true h5I
      have hk0 : (0 : Int) ≤ (k : Int) := by omega
      have c0 : wr.cell? ⟨B, k, none⟩ = some (.string (ofL (twosL.getD k []))) := by rw [HW.out]; simpa using HC.out k h5
      obtain ⟨X, hX⟩ : ∃ X : ByteArray, X = ofL (twosL.getD k []) := ⟨_, rfl⟩
      rw [← hX] at c0
      have hXl : X.data.toList = twosL.getD k [] := by rw [hX]; exact ofL_list _
      by_cases h2 : 2 ≤ s.size
      · have h2I : (2 : Int) ≤ (s.size : Int) := by omega
        have h2d : decide ((2 : Int) ≤ (s.size : Int)) = true := decide_eq_true h2I
        have hYl : (s.extract 0 2).data.toList = l.take 2 := by rw [ext_take, HL.out]
        by_cases he : twosL.getD k [] = l.take 2
        · have q : ((s.extract 0 2).toList == X.toList) = true := by rw [toList_data, toList_data, hXl, hYl, he]; simp
          have HT : Hid (X.data.toList = signS l) := by
            unfold signS
            rw [if_pos ((two_get l).2 ⟨k, h5, by rw [HLN.out]; exact h2, he⟩), hXl, he]
            exact Lib.hid rfl
          clear he hX hXl hYl
          go_wp2_with fail
          go_quiet (fail)
          have c0 : (wr.drewN nq).cell? ⟨B, k, none⟩ = some (.string X) := by simpa using c0
          have K2 := Lib.hid (KR.out.trans (drew_keeps wr nq) (fun _ _ h => h))
          go_wp2
          go_ret
          exact ⟨⟨X, rfl, HT.out⟩, K2.out⟩
        · have q : ((s.extract 0 2).toList == X.toList) = false := by rw [toList_data, toList_data, hXl, hYl]; exact beq_eq_false_iff_ne.2 (fun e => he e.symm)
          have HN : Hid (∀ j, j < k + 1 → 2 ≤ l.length → twosL.getD j [] ≠ l.take 2) := fun j hj => by
            rcases Nat.lt_or_ge j k with h3 | h3
            · exact HNO.out j h3
            · obtain rfl : j = k := by omega
              exact fun _ => he
          clear he hX hXl hYl
          go_wp2_with fail
          go_quiet (fail)
          go_wp2
          go_roundw
          case rel => exact ⟨k + 1, n + nq, by omega, by go_num, HN.out, by rw [HW.out, World.drewN_drewN]⟩
          case measure => simp [intOf]; omega
      · have h2d : decide ((2 : Int) ≤ (s.size : Int)) = false := decide_eq_false (by omega)
        have HN : Hid (∀ j, j < k + 1 → 2 ≤ l.length → twosL.getD j [] ≠ l.take 2) := fun j hj h => by have := HLN.out; omega
        clear hX hXl
        go_wp2_with fail
        go_quiet (fail)
        go_wp2
        go_roundw
        case rel => exact ⟨k + 1, n + nq, by omega, by go_num, HN.out, by rw [HW.out, World.drewN_drewN]⟩
        case measure => simp [intOf]; omega
    · obtain rfl : k = 5 := by omega
      have hno2 : isTwo l = false := by
        cases h : isTwo l with
        | false => rfl
        | true =>
          obtain ⟨j, h2, h3, h4⟩ := (two_get l).1 h
          exact absurd h4 (HNO.out j h2 h3)
      have hhd : l.headD 0 = s[0] := by
        have := H0.out
        cases hl : l with
        | nil => rw [hl] at this; cases this
        | cons c r => rw [hl] at this; simpa using this
      have hsg : signS l = if onesL.contains s[0] then l.take 1 else [] := by unfold signS; rw [if_neg (by rw [hno2]; decide), hhd]
      have hl1 : l.take 1 = [s[0]] := by
        have := H0.out
        cases hl : l with
        | nil => rw [hl] at this; cases this
        | cons c r => rw [hl] at this; simp at this; rw [this]; rfl
      rw [hl1] at hsg
      have HSG := Lib.hid hsg
      have hs0 : (0 : Int) < (s.size : Int) := by omega
      clear hno2 hhd hsg hl1
      obtain ⟨wo, rfl⟩ : ∃ wo, wo = wr := ⟨_, rfl⟩
      go_wp2_with fail
      go_loopw [6] (fun s6 wx => ∃ (k m : Nat), k ≤ 16 ∧ s6 = .int .i64 k ∧ (∀ j, ∀ h : j < oneB.size, j < k → oneB[j] ≠ s[0]) ∧ wx = wo.drewN m) (fun s6 _ => 17 - (intOf s6).toNat)
      case atStart => exact ⟨0, 0, Nat.zero_le _, rfl, fun j _ h => by omega, rfl⟩
      case round =>
        obtain ⟨k, m, hk, rfl, hno, hw⟩ := hrel
        have HWX := Lib.hid hw
        have kx : Keeps (fun _ => False) w wr := KR.out.trans (by rw [hw]; exact drew_keeps wo m) (fun _ _ h => h)
        have KX := Lib.hid kx
        have HNO2 := Lib.hid hno
        clear hw kx hno
        by_cases h16 : k < 16
        · have h6I : (k : Int) < 16 := by omega
          have h6d : decide ((k : Int) < 16) = true := decide_eq_true h6I
          have hk0 : (0 : Int) ≤ (k : Int) := by omega
          have hk1 : (k : Int) + 1 ≤ 16 := by omega
          have hkB : k < oneB.size := h16
          by_cases he : oneB[k] = s[0]
          · have q : ((s[0].toNat : Int) == ((({ data := #[40, 41, 123, 125, 91, 93, 44, 59, 61, 60, 43, 45, 42, 47, 37, 33] } : ByteArray)[k]'hkB).toNat : Int)) = true := by
              show ((s[0].toNat : Int) == (oneB[k].toNat : Int)) = true
              rw [he]
              simp
            have hT : (oneB.extract k (k + 1)).data.toList = signS l := by
              rw [HSG.out, if_pos ((one_get _).2 ⟨k, hkB, he⟩), ext_one oneB k hkB, he]
            have HT := Lib.hid hT
            clear he hT
            go_wp2_with fail
            go_quiet (fail)
            have K2 := Lib.hid (KX.out.trans (drew_keeps _ nq) (fun _ _ h => h))
            go_wp2
            go_ret
            exact ⟨⟨_, rfl, HT.out⟩, K2.out⟩
          · have q : ((s[0].toNat : Int) == ((({ data := #[40, 41, 123, 125, 91, 93, 44, 59, 61, 60, 43, 45, 42, 47, 37, 33] } : ByteArray)[k]'hkB).toNat : Int)) = false := by
              show ((s[0].toNat : Int) == (oneB[k].toNat : Int)) = false
              rw [beq_eq_false_iff_ne]
              intro e
              exact he (UInt8.toNat_inj.1 (by omega))
            have HN : Hid (∀ j, ∀ h : j < oneB.size, j < k + 1 → oneB[j] ≠ s[0]) := fun j hj hjk => by
              rcases Nat.lt_or_ge j k with h3 | h3
              · exact HNO2.out j hj h3
              · obtain rfl : j = k := by omega
                exact he
            clear he
            go_wp2_with fail
            go_quiet (fail)
            go_wp2
            go_roundw
            case rel => exact ⟨k + 1, m + nq, by omega, by go_num, HN.out, by rw [HWX.out, World.drewN_drewN]⟩
            case measure => simp [intOf]; omega
        · obtain rfl : k = 16 := by omega
          have hT : ({ data := #[] } : ByteArray).data.toList = signS l := by
            rw [HSG.out, if_neg]
            intro h
            obtain ⟨j, hj, e⟩ := (one_get _).1 h
            exact HNO2.out j hj hj e
          have HT := Lib.hid hT
          clear hT
          go_wp2
          go_ret
          exact ⟨⟨_, rfl, HT.out⟩, KX.out⟩
end Go.Proofs.YtgelggdgbmldiaaDoor

namespace Go.Proofs.YtgelggdgbmldiaaDoor
open Go.RowKit Go.Shelf
set_option linter.unusedVariables false
set_option linter.unusedSimpArgs false
theorem drop_at {s : ByteArray} {l : List UInt8} (hl : l = s.data.toList) {j : Nat} (h : j < s.size) : l.drop j = s[j] :: l.drop (j + 1) := by
  have h1 := at_byte s j h
  rw [← hl] at h1
  obtain ⟨h2, h3⟩ := List.getElem?_eq_some_iff.1 h1
  rw [List.drop_eq_getElem_cons h2, h3]
theorem rem_two (c d : UInt8) (r : List UInt8) : isRem (c :: d :: r) = (decide (c = 47) && decide (d = 47)) := by
  rw [Bool.eq_iff_iff]
  simp only [Bool.and_eq_true, decide_eq_true_eq]
  constructor
  · intro h
    obtain ⟨t, e⟩ := List.isPrefixOf_iff_prefix.1 h
    simp only [List.cons_append, List.cons.injEq] at e
    exact ⟨e.1.symm, e.2.1.symm⟩
  · rintro ⟨rfl, rfl⟩
    exact List.isPrefixOf_iff_prefix.2 ⟨r, rfl⟩
theorem rem_one (c : UInt8) : isRem [c] = false := by
  cases h : isRem [c] with
  | false => rfl
  | true =>
    have := (List.isPrefixOf_iff_prefix.1 h).length_le
    simp at this
/-- Behind a remark. -/
theorem rem_jump {l : List UInt8} {j : Nat} (h1 : isRem (l.drop j) = true) (hb : ∀ c, l[j]? = some c → blk c = false) :
    lexL (l.drop (j + runL (fun d => !decide (d = 10)) (l.drop j))) (j + runL (fun d => !decide (d = 10)) (l.drop j)) = lexL (l.drop j) j := by
  cases hd : l.drop j with
  | nil => rw [hd] at h1; exact absurd h1 (by decide)
  | cons c r =>
    rw [hd] at h1
    have hc : l[j]? = some c := by
      have : (l.drop j)[0]? = some c := by rw [hd]; rfl
      rw [List.getElem?_drop] at this
      exact this
    have hbc := hb c hc
    rw [← List.drop_drop, hd]
    by_cases he : runL (fun d => !decide (d = 10)) (c :: r) = (c :: r).length
    · rw [lexL_rem_end hbc h1 he, he, List.drop_length, lexL_nil]
    · rw [lexL_rem hbc h1 he]
set_option maxRecDepth 100000 in
set_option maxHeartbeats 8000000 in
theorem rskip_any (s : ByteArray) (hs : s.size ≤ 1000) (i : Nat) (hi : i ≤ s.size) (w : World) : Calls Tryd.prog 56 #[.string s, .int .i64 i] w fun e w' => (∃ j : Nat, e = .returned (.int .i64 (j : Int)) ∧ i ≤ j ∧ j ≤ s.size ∧ lexL (s.data.toList.drop j) j = lexL (s.data.toList.drop i) i ∧
    (j < s.size → ∃ c r, s.data.toList.drop j = c :: r ∧ blk c = false ∧ isRem (c :: r) = false)) ∧ w' = w := by
  obtain ⟨l, hl⟩ : ∃ l : List UInt8, l = s.data.toList := ⟨_, rfl⟩
  have hlen : l.length = s.size := by rw [hl, len_size]
  rw [← hl]
  have HL := Lib.hid hl
  have HLN := Lib.hid hlen
  clear hl hlen
  go_enter Tryd.func56, Tryd.ntmps56
  go_wp2_with fail
  go_loopw [1] (fun s1 wr => ∃ (j : Nat), i ≤ j ∧ j ≤ s.size ∧ s1 = .int .i64 j ∧ lexL (l.drop j) j = lexL (l.drop i) i ∧ wr = w) (fun s1 _ => s.size + 1 - (intOf s1).toNat)
  case atStart => exact ⟨i, Nat.le_refl _, hi, rfl, rfl, rfl⟩
  case round =>
    obtain ⟨j, hij, hj, rfl, hlx, hw⟩ := hrel
    obtain rfl : w = wr := hw.symm
    have HX := Lib.hid hlx
    clear hw hlx
    by_cases hN : j < s.size
    · have hNI : (j : Int) < (s.size : Int) := by omega
      have hNd : decide ((j : Int) < (s.size : Int)) = true := decide_eq_true hNI
      have hj0 : (0 : Int) ≤ (j : Int) := by omega
      have hd := drop_at HL.out hN
      have hat := at_byte s j hN
      rw [← HL.out] at hat
      have HD := Lib.hid hd
      have HAT := Lib.hid hat
      clear hd hat
      by_cases hb : blk s[j] = true
      · have hbn : s[j].toNat = 32 ∨ s[j].toNat = 9 ∨ s[j].toNat = 13 ∨ s[j].toNat = 10 := by
          have hb2 := hb
          unfold blk at hb2
          simp only [Bool.or_eq_true, decide_eq_true_eq] at hb2
          omega
        have HN : Hid (lexL (l.drop (j + 1)) (j + 1) = lexL (l.drop i) i) := by
          rw [← HX.out, HD.out, lexL_blank hb]
          exact Lib.hid rfl
        clear hb
        rcases hbn with hn | hn | hn | hn
        · have n32 : ((s[j].toNat : Int) == 32) = true := by simp; omega
          have HNN := Lib.hid hn
          clear hn
          go_wp2
          go_roundw
          case rel => exact ⟨j + 1, by omega, by omega, by go_num, HN.out, by first | rfl | trivial⟩
          case measure => simp [intOf]; omega
        · have n32 : ((s[j].toNat : Int) == 32) = false := by simp; omega
          have n9 : ((s[j].toNat : Int) == 9) = true := by simp; omega
          have HNN := Lib.hid hn
          clear hn
          go_wp2
          go_roundw
          case rel => exact ⟨j + 1, by omega, by omega, by go_num, HN.out, by first | rfl | trivial⟩
          case measure => simp [intOf]; omega
        · have n32 : ((s[j].toNat : Int) == 32) = false := by simp; omega
          have n9 : ((s[j].toNat : Int) == 9) = false := by simp; omega
          have n13 : ((s[j].toNat : Int) == 13) = true := by simp; omega
          have HNN := Lib.hid hn
          clear hn
          go_wp2
          go_roundw
          case rel => exact ⟨j + 1, by omega, by omega, by go_num, HN.out, by first | rfl | trivial⟩
          case measure => simp [intOf]; omega
        · have n32 : ((s[j].toNat : Int) == 32) = false := by simp; omega
          have n9 : ((s[j].toNat : Int) == 9) = false := by simp; omega
          have n13 : ((s[j].toNat : Int) == 13) = false := by simp; omega
          have n10 : ((s[j].toNat : Int) == 10) = true := by simp; omega
          have HNN := Lib.hid hn
          clear hn
          go_wp2
          go_roundw
          case rel => exact ⟨j + 1, by omega, by omega, by go_num, HN.out, by first | rfl | trivial⟩
          case measure => simp [intOf]; omega
      · have hbf : blk s[j] = false := Bool.eq_false_iff.2 hb
        have hbn : s[j].toNat ≠ 32 ∧ s[j].toNat ≠ 9 ∧ s[j].toNat ≠ 13 ∧ s[j].toNat ≠ 10 := by
          have hb2 := hbf
          unfold blk at hb2
          simp only [Bool.or_eq_false_iff, decide_eq_false_iff_not] at hb2
          omega
        have n32 : ((s[j].toNat : Int) == 32) = false := by simp; omega
        have n9 : ((s[j].toNat : Int) == 9) = false := by simp; omega
        have n13 : ((s[j].toNat : Int) == 13) = false := by simp; omega
        have n10 : ((s[j].toNat : Int) == 10) = false := by simp; omega
        have HB := Lib.hid hbf
        clear hb hbf hbn
        have hret : isRem (l.drop j) = false → (j < s.size → ∃ c r, l.drop j = c :: r ∧ blk c = false ∧ isRem (c :: r) = false) := fun h _ => ⟨s[j], l.drop (j + 1), HD.out, HB.out, by rw [← HD.out]; exact h⟩
        have HRET := Lib.hid hret
        clear hret
        by_cases h47 : s[j].toNat = 47
        · have n47 : ((s[j].toNat : Int) == 47) = true := by simp; omega
          by_cases h2 : j + 1 < s.size
          · have h2I : (j : Int) + 1 < (s.size : Int) := by omega
            have h2d : decide ((j : Int) + 1 < (s.size : Int)) = true := decide_eq_true h2I
            have hj1 : (0 : Int) ≤ (j : Int) + 1 := by omega
            have tj1 : ((j : Int) + 1).toNat = j + 1 := by omega
            have hd2 := drop_at HL.out h2
            have hrm : isRem (l.drop j) = (decide (s[j] = 47) && decide (s[j + 1] = 47)) := by rw [HD.out, hd2, rem_two]
            have e1 : decide (s[j] = 47) = true := decide_eq_true (UInt8.toNat_inj.1 (by rw [h47]; rfl))
            rw [e1, Bool.true_and] at hrm
            by_cases h48 : s[j + 1].toNat = 47
            · have n48 : ((s[j + 1].toNat : Int) == 47) = true := by simp; omega
              rw [decide_eq_true (UInt8.toNat_inj.1 (by rw [h48]; rfl))] at hrm
              have hjump := rem_jump hrm (fun c hc => by rw [HAT.out] at hc; rw [← Option.some.inj hc]; exact HB.out)
              obtain ⟨r, hr⟩ : ∃ r, r = l.drop j := ⟨_, rfl⟩
              have hr2 : 2 ≤ runL (fun d => !decide (d = 10)) r := by rw [hr]; exact rem_size _ hrm
              have hrl : r.length = s.size - j := by rw [hr, List.length_drop, HLN.out]
              rw [HX.out, ← hr] at hjump
              have HJ := Lib.hid hjump
              have HRr := Lib.hid hr
              have HRL := Lib.hid hrl
              have H47 := Lib.hid h47
              have H48 := Lib.hid h48
              clear hrm hd2 e1 hjump hr hrl h47 h48
              go_wp2_with fail
              go_loopw [1] (fun s1 wr => ∃ (t k : Nat), k = j + t ∧ k ≤ s.size ∧ s1 = .int .i64 k ∧ t ≤ runL (fun d => !decide (d = 10)) r ∧ wr = w) (fun s1 _ => s.size + 1 - (intOf s1).toNat)
              case atStart => exact ⟨0, j, rfl, hj, rfl, Nat.zero_le _, rfl⟩
              case round =>
                obtain ⟨t, k, hk, hks, rfl, ht, hw⟩ := hrel
                obtain rfl : w = wr := hw.symm
                clear hw
                obtain ⟨st1, st2⟩ := run_step ht
                have hout : t = runL (fun d => !decide (d = 10)) r → lexL (l.drop k) k = lexL (l.drop i) i := fun h => by rw [hk, h]; exact HJ.out
                by_cases hkN : k < s.size
                · have hkI : (k : Int) < (s.size : Int) := by omega
                  have hkd : decide ((k : Int) < (s.size : Int)) = true := decide_eq_true hkI
                  have hk0 : (0 : Int) ≤ (k : Int) := by omega
                  have hc : r[t]? = some s[k] := by
                    have h1 := at_drop s j t (by omega)
                    rw [HRr.out, HL.out, h1]
                    congr 1
                    congr 1
                    exact hk.symm
                  have h3 := st1 _ hc
                  by_cases h10 : s[k].toNat = 10
                  · have m10 : ((s[k].toNat : Int) != 10) = false := by simp; omega
                    have hte := h3.2 (by simp; exact UInt8.toNat_inj.1 (by rw [h10]; rfl))
                    have HO := Lib.hid (hout hte)
                    have HK : Hid (j < k) := Lib.hid (by omega)
                    have H10 := Lib.hid h10
                    have HKK := Lib.hid hk
                    clear h3 hc st1 st2 hout h10 hte hk
                    go_wp2
                    go_roundw
                    case rel => exact ⟨k, by have := HK.out; omega, hks, rfl, HO.out, by first | rfl | trivial⟩
                    case measure => have := HK.out; simp [intOf]; omega
                  · have m10 : ((s[k].toNat : Int) != 10) = true := by simp; omega
                    have hte := h3.1 (by simp; intro e; rw [e] at h10; exact h10 rfl)
                    have HKK := Lib.hid hk
                    clear h3 hc st1 st2 hout hk
                    go_wp2
                    go_roundw
                    case rel => exact ⟨t + 1, k + 1, by have := HKK.out; omega, by omega, by go_num, hte, by first | rfl | trivial⟩
                    case measure => simp [intOf]; omega
                · have hkd : decide ((k : Int) < (s.size : Int)) = false := decide_eq_false (by omega)
                  have hte := st2 (List.getElem?_eq_none_iff.2 (by rw [HRL.out]; omega))
                  have HO := Lib.hid (hout hte)
                  have HK : Hid (j < k) := Lib.hid (by omega)
                  have HKK := Lib.hid hk
                  clear st1 st2 hout hte hk
                  go_wp2
                  go_roundw
                  case rel => exact ⟨k, by have := HK.out; omega, hks, rfl, HO.out, by first | rfl | trivial⟩
                  case measure => have := HK.out; simp [intOf]; omega
            · have n48 : ((s[j + 1].toNat : Int) == 47) = false := by simp; omega
              rw [decide_eq_false (fun e => h48 (by rw [e]; rfl))] at hrm
              have HR := Lib.hid (HRET.out hrm)
              have H47 := Lib.hid h47
              clear hrm hd2 e1 h47 h48
              go_wp2
              go_ret
              exact ⟨⟨j, rfl, hij, hj, HX.out, HR.out⟩, rfl⟩
          · have h2d : decide ((j : Int) + 1 < (s.size : Int)) = false := decide_eq_false (by omega)
            have hrm : isRem (l.drop j) = false := by
              rw [HD.out, List.drop_of_length_le (by rw [HLN.out]; omega)]
              exact rem_one _
            have HR := Lib.hid (HRET.out hrm)
            have H47 := Lib.hid h47
            clear hrm h47
            go_wp2
            go_ret
            exact ⟨⟨j, rfl, hij, hj, HX.out, HR.out⟩, rfl⟩
        · have n47 : ((s[j].toNat : Int) == 47) = false := by simp; omega
          have hrm : isRem (l.drop j) = false := by
            cases h : isRem (l.drop j) with
            | false => rfl
            | true =>
              rw [HD.out] at h
              exact absurd (by rw [rem_head h]; rfl) h47
          have HR := Lib.hid (HRET.out hrm)
          clear hrm
          go_wp2
          go_ret
          exact ⟨⟨j, rfl, hij, hj, HX.out, HR.out⟩, rfl⟩
    · have hNd : decide ((j : Int) < (s.size : Int)) = false := decide_eq_false (by omega)
      go_wp2
      go_ret
      exact ⟨⟨j, rfl, hij, hj, HX.out, fun h => absurd h hN⟩, rfl⟩
end Go.Proofs.YtgelggdgbmldiaaDoor

namespace Go.Proofs.YtgelggdgbmldiaaDoor
open Go.RowKit Go.Shelf
set_option linter.unusedVariables false
set_option linter.unusedSimpArgs false
theorem keeps_one {w wA : World} {pn : Nat} (h : Keeps (fun _ => False) w wA) (hp : pn = w.heap.size) (a b c : Value) :
    Keeps (fun _ => False) w (((wA.setCell ⟨pn, 0, none⟩ a).setCell ⟨pn, 1, none⟩ b).setCell ⟨pn, 2, none⟩ c) := by
  have hf : ∀ n : Nat, (⟨pn, n, none⟩ : Addr).block < w.heap.size → False := fun n h => by
    have h : pn < w.heap.size := h
    omega
  exact ((h.setCell (p := ⟨pn, 0, none⟩) (hf 0) a).setCell (p := ⟨pn, 1, none⟩) (hf 1) b).setCell (p := ⟨pn, 2, none⟩) (hf 2) c
/-- What the document's one tells of a place. -/
def OneR (l : List UInt8) (i : Nat) (w : World) (e : Ending) (w' : World) : Prop := (∃ (K : Nat) (X : ByteArray) (P en er : Nat), e = .returned (.tuple #[.agg #[.int .i64 (K : Int), .string X, .int .i64 (P : Int)], .int .i64 (en : Int), .int .i64 (er : Int)]) ∧
  er = (firstL (l.drop i)).2.2 ∧ (er = 0 → K = (firstL (l.drop i)).1 ∧ X.data.toList = saidL (firstL (l.drop i)).1 ((l.drop i).take (firstL (l.drop i)).2.1) ∧ P = i ∧ en = i + (firstL (l.drop i)).2.1)) ∧ Keeps (fun _ => False) w w'
set_option maxRecDepth 100000 in
set_option maxHeartbeats 8000000 in
theorem one_number (s : ByteArray) (hs : s.size ≤ 1000) (i : Nat) (hi : i < s.size) (hd : dig s[i] = true) (w : World) : Calls Tryd.prog 57 #[.string s, .int .i64 i] w (OneR s.data.toList i w) := by
  obtain ⟨l, hl⟩ : ∃ l : List UInt8, l = s.data.toList := ⟨_, rfl⟩
  have hlen : l.length = s.size := by rw [hl, len_size]
  rw [← hl]
  obtain ⟨r, hr⟩ : ∃ r, r = l.drop i := ⟨_, rfl⟩
  have hrc : r = s[i] :: l.drop (i + 1) := by rw [hr]; exact drop_at hl hi
  have hF : firstL r = numberL r := by rw [hrc, firstL_cons, if_pos hd]
  have hrl : r.length = s.size - i := by rw [hr, List.length_drop, hlen]
  have hiI : (i : Int) < (s.size : Int) := by omega
  have hi0 : (0 : Int) ≤ (i : Int) := by omega
  have DC : Hid (∀ (w : World) (c : UInt8), Calls Tryd.prog 86 #[.int .u8 (c.toNat : Int)] w fun e w' => e = .returned (.bool (dig c)) ∧ w' = w) := Lib.hid rdig
  have D0 : Hid (Calls Tryd.prog 86 #[.int .u8 (s[i].toNat : Int)] (w.alloc (.cells #[.int .i64 0, .string { data := #[] }, .int .i64 0] 54)) fun e w' => e = .returned (.bool true) ∧ w' = w.alloc (.cells #[.int .i64 0, .string { data := #[] }, .int .i64 0] 54)) := by
    have := DC.out (w.alloc (.cells #[.int .i64 0, .string { data := #[] }, .int .i64 0] 54)) s[i]
    rw [hd] at this
    exact this
  have HL := Lib.hid hl
  have HLN := Lib.hid hlen
  have HRr := Lib.hid hr
  have HF := Lib.hid hF
  have HRL := Lib.hid hrl
  clear hl hlen hr hrc hF hrl hd
  go_enter Tryd.func57, Tryd.ntmps57
  go_wp2_with fail
  refine D0.out.mono ?_
  rintro e w2 ⟨rfl, hw⟩
  generalize hwA : w.alloc _ = wA at hw ⊢
  obtain rfl : wA = w2 := hw.symm
  have kA : Keeps (fun _ => False) w wA := by rw [← hwA]; exact (Keeps.refl _ _).alloc _
  have c0 : wA.cell? ⟨w.heap.size, 0, none⟩ = some (.int .i64 0) := by rw [← hwA]; simp
  have c1 : wA.cell? ⟨w.heap.size, 1, none⟩ = some (.string { data := #[] }) := by rw [← hwA]; simp
  have c2 : wA.cell? ⟨w.heap.size, 2, none⟩ = some (.int .i64 0) := by rw [← hwA]; simp
  have f0 : wA.frozen? ⟨w.heap.size, 0, none⟩ = false := by rw [← hwA]; simp
  have f1 : wA.frozen? ⟨w.heap.size, 1, none⟩ = false := by rw [← hwA]; simp
  have f2 : wA.frozen? ⟨w.heap.size, 2, none⟩ = false := by rw [← hwA]; simp
  have KA := Lib.hid kA
  obtain ⟨pn, hpn⟩ : ∃ pn, pn = w.heap.size := ⟨_, rfl⟩
  rw [← hpn] at c0 c1 c2 f0 f1 f2 ⊢
  have HPN := Lib.hid hpn
  clear hw hwA kA D0 hpn
  go_wp2_with fail
  go_loopw [8] (fun s8 wr => ∃ (t P : Nat), P = i + t ∧ P ≤ s.size ∧ s8 = .int .i64 P ∧ t ≤ runL dig r ∧ wr = wA) (fun s8 _ => s.size + 1 - (intOf s8).toNat)
  case atStart => exact ⟨0, i, rfl, by omega, rfl, Nat.zero_le _, rfl⟩
  case round =>
    obtain ⟨t, P, hP, hPs, rfl, ht, hw⟩ := hrel
    obtain rfl : wA = wr := hw.symm
    clear hw
    obtain ⟨st1, st2⟩ := run_step ht
    by_cases hPN : P < s.size
    · have hPI : (P : Int) < (s.size : Int) := by omega
      have hPd : decide ((P : Int) < (s.size : Int)) = true := decide_eq_true hPI
      have hP0 : (0 : Int) ≤ (P : Int) := by omega
      have hc : r[t]? = some s[P] := by
        have h1 := at_drop s i t (by omega)
        rw [HRr.out, HL.out, h1]
        congr 1
        congr 1
        exact hP.symm
      have h2 := st1 _ hc
      have hC := DC.out wA s[P]
      clear hc st1 st2
      cases hb : dig s[P] with
      | true =>
        rw [hb] at hC h2
        have hte := h2.1 rfl
        have HC := Lib.hid hC
        have HP := Lib.hid hP
        clear hC h2 hb hP
        go_wp2_with fail
        refine HC.out.mono ?_
        rintro e w3 ⟨rfl, hw⟩
        obtain rfl : wA = w3 := hw.symm
        clear hw HC
        go_wp2
        go_roundw
        case rel => exact ⟨t + 1, P + 1, by have := HP.out; omega, by omega, by go_num, hte, by first | rfl | trivial⟩
        case measure => simp [intOf]; omega
      | false =>
        rw [hb] at hC h2
        have hte := h2.2 rfl
        have HC := Lib.hid hC
        have HPx := Lib.hid hP
        have HTx := Lib.hid hte
        clear hC h2 hb hP hte
        go_wp2_with fail
        refine HC.out.mono ?_
        rintro e w3 ⟨rfl, hw⟩
        obtain rfl : wA = w3 := hw.symm
        clear hw HC
        have hP := HPx.out
        have hte := HTx.out
        have hTl : (s.extract i P).data.toList = r.take t := by
          rw [ext_mid2, ← HL.out, ← HRr.out, show P - i = t by omega]
        have hTs : (s.extract i P).size = t := by
          rw [← len_size, hTl, List.length_take, HRL.out]
          omega
        have hall : ∀ c ∈ (s.extract i P).data.toList, dig c = true := by
          rw [hTl, hte]
          exact runL_all dig r
        have hNC := rnumber_any (s.extract i P) hall wA
        rw [hTl, hTs] at hNC
        have hFN : firstL r = if numV (r.take t) ≤ 9223372036854775807 ∧ t ≤ 19 then (1, t, 0) else (0, 0, 12) := by
          rw [HF.out]
          unfold numberL
          rw [← hte]
        obtain ⟨X, hX⟩ : ∃ X, X = s.extract i P := ⟨_, rfl⟩
        rw [← hX] at hNC hTl
        have hiP : (i : Int) ≤ (P : Int) := by omega
        have hP0 : (0 : Int) ≤ (P : Int) := by omega
        have hPsI : (P : Int) ≤ (s.size : Int) := by omega
        have HX := Lib.hid hX
        have HTL := Lib.hid hTl
        have HP := Lib.hid hP
        clear hTs hall hX hte hTl hP
        by_cases hok : numV (r.take t) ≤ 9223372036854775807 ∧ t ≤ 19
        · rw [decide_eq_true hok] at hNC
          rw [if_pos hok] at hFN
          have NC := Lib.hid hNC
          have HFN := Lib.hid hFN
          clear hok hNC hFN
          go_wp2_with fail
          rw [← HX.out]
          refine NC.out.mono ?_
          rintro e w3 ⟨rfl, hw⟩
          obtain rfl : wA = w3 := hw.symm
          clear hw NC
          go_wp2
          (try simp only [Exit.inBlock, Exit.then])
          refine bodyPost_ret (v := .tuple #[.agg #[(.int .i64 1), .string (s.extract i P), (.int .i64 i)], (.int .i64 P), (.int .i64 0)]) ?_ rfl ?_
          · rw [results_cell_tmp3 rfl]
            go_simp
          refine ⟨⟨1, s.extract i P, i, P, 0, rfl, ?_, fun _ => ?_⟩, ?_⟩
          · rw [← HRr.out, HFN.out]
          · rw [← HRr.out, HFN.out]
            exact ⟨rfl, by rw [← HX.out]; exact HTL.out, rfl, HP.out⟩
          · exact keeps_one KA.out HPN.out _ _ _
        · rw [decide_eq_false hok] at hNC
          rw [if_neg hok] at hFN
          have NC := Lib.hid hNC
          have HFN := Lib.hid hFN
          clear hok hNC hFN
          go_wp2_with fail
          rw [← HX.out]
          refine NC.out.mono ?_
          rintro e w3 ⟨rfl, hw⟩
          obtain rfl : wA = w3 := hw.symm
          clear hw NC
          go_wp2
          (try simp only [Exit.inBlock, Exit.then])
          refine bodyPost_ret (v := .tuple #[.agg #[(.int .i64 0), .string ({ data := #[] } : ByteArray), (.int .i64 0)], (.int .i64 i), (.int .i64 12)]) ?_ rfl ?_
          · rw [results_cell_tmp3 rfl]
            go_simp
          refine ⟨⟨0, { data := #[] }, 0, i, 12, rfl, ?_, fun h => by cases h⟩, ?_⟩
          · rw [← HRr.out, HFN.out]
          · exact keeps_one KA.out HPN.out _ _ _
    · have hPd : decide ((P : Int) < (s.size : Int)) = false := decide_eq_false (by omega)
      have hte := st2 (List.getElem?_eq_none_iff.2 (by rw [HRL.out]; omega))
      clear st1 st2
      have hTl : (s.extract i P).data.toList = r.take t := by
        rw [ext_mid2, ← HL.out, ← HRr.out, show P - i = t by omega]
      have hTs : (s.extract i P).size = t := by
        rw [← len_size, hTl, List.length_take, HRL.out]
        omega
      have hall : ∀ c ∈ (s.extract i P).data.toList, dig c = true := by
        rw [hTl, hte]
        exact runL_all dig r
      have hNC := rnumber_any (s.extract i P) hall wA
      rw [hTl, hTs] at hNC
      have hFN : firstL r = if numV (r.take t) ≤ 9223372036854775807 ∧ t ≤ 19 then (1, t, 0) else (0, 0, 12) := by
        rw [HF.out]
        unfold numberL
        rw [← hte]
      obtain ⟨X, hX⟩ : ∃ X, X = s.extract i P := ⟨_, rfl⟩
      rw [← hX] at hNC hTl
      have hiP : (i : Int) ≤ (P : Int) := by omega
      have hP0 : (0 : Int) ≤ (P : Int) := by omega
      have hPsI : (P : Int) ≤ (s.size : Int) := by omega
      have HX := Lib.hid hX
      have HTL := Lib.hid hTl
      have HP := Lib.hid hP
      clear hTs hall hX hte hTl hP
      by_cases hok : numV (r.take t) ≤ 9223372036854775807 ∧ t ≤ 19
      · rw [decide_eq_true hok] at hNC
        rw [if_pos hok] at hFN
        have NC := Lib.hid hNC
        have HFN := Lib.hid hFN
        clear hok hNC hFN
        go_wp2_with fail
        rw [← HX.out]
        refine NC.out.mono ?_
        rintro e w3 ⟨rfl, hw⟩
        obtain rfl : wA = w3 := hw.symm
        clear hw NC
        go_wp2
        (try simp only [Exit.inBlock, Exit.then])
        refine bodyPost_ret (v := .tuple #[.agg #[(.int .i64 1), .string (s.extract i P), (.int .i64 i)], (.int .i64 P), (.int .i64 0)]) ?_ rfl ?_
        · rw [results_cell_tmp3 rfl]
          go_simp
        refine ⟨⟨1, s.extract i P, i, P, 0, rfl, ?_, fun _ => ?_⟩, ?_⟩
        · rw [← HRr.out, HFN.out]
        · rw [← HRr.out, HFN.out]
          exact ⟨rfl, by rw [← HX.out]; exact HTL.out, rfl, HP.out⟩
        · exact keeps_one KA.out HPN.out _ _ _
      · rw [decide_eq_false hok] at hNC
        rw [if_neg hok] at hFN
        have NC := Lib.hid hNC
        have HFN := Lib.hid hFN
        clear hok hNC hFN
        go_wp2_with fail
        rw [← HX.out]
        refine NC.out.mono ?_
        rintro e w3 ⟨rfl, hw⟩
        obtain rfl : wA = w3 := hw.symm
        clear hw NC
        go_wp2
        (try simp only [Exit.inBlock, Exit.then])
        refine bodyPost_ret (v := .tuple #[.agg #[(.int .i64 0), .string ({ data := #[] } : ByteArray), (.int .i64 0)], (.int .i64 i), (.int .i64 12)]) ?_ rfl ?_
        · rw [results_cell_tmp3 rfl]
          go_simp
        refine ⟨⟨0, { data := #[] }, 0, i, 12, rfl, ?_, fun h => by cases h⟩, ?_⟩
        · rw [← HRr.out, HFN.out]
        · exact keeps_one KA.out HPN.out _ _ _
end Go.Proofs.YtgelggdgbmldiaaDoor
