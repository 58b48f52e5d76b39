/-
  Layer 1: the contract of the document's sign. Written by an AI agent.
-/
import Derived.Test.YtoombjbpblighaaDoorRfB
namespace Go.Proofs.YtoombjbpblighaaDoor
open Go.RowKit Go.Shelf
set_option linter.unusedVariables false
set_option linter.unusedSimpArgs false

def signS (l : List UInt8) : List UInt8 := if isTwo l then l.take 2 else if onesL.contains (l.headD 0) then l.take 1 else []

theorem two_get (l : List UInt8) : isTwo l = true ↔ ∃ k, k < 5 ∧ 2 ≤ l.length ∧ twosL.getD k [] = l.take 2 := by
  have hk : ∀ k, k < 5 → (twosL.getD k []).length = 2 := by decide
  unfold isTwo
  rw [List.any_eq_true]
  constructor
  · rintro ⟨t, ht, hp⟩
    obtain ⟨k, hk1, e⟩ := List.mem_iff_getElem.1 ht
    have e2 : twosL.getD k [] = t := by rw [← e]; simp [List.getD, hk1]
    have h2 := hk k hk1
    rw [e2] at h2
    obtain ⟨r, hr⟩ := List.isPrefixOf_iff_prefix.1 hp
    refine ⟨k, hk1, by rw [← hr, List.length_append]; omega, ?_⟩
    rw [e2, ← hr, ← h2, List.take_left]
  · rintro ⟨k, hk1, h2, e⟩
    have hk2 : k < twosL.length := hk1
    refine ⟨twosL.getD k [], ?_, ?_⟩
    · have : twosL.getD k [] = twosL[k] := by simp [List.getD, hk2]
      rw [this]
      exact List.getElem_mem hk2
    · rw [e]
      exact List.isPrefixOf_iff_prefix.2 (List.take_prefix 2 l)

def oneB : ByteArray := { data := #[40, 41, 123, 125, 91, 93, 44, 59, 61, 60, 43, 45, 42, 47, 37, 33] }
theorem one_get (c : UInt8) : onesL.contains c = true ↔ ∃ k, ∃ h : k < oneB.size, oneB[k] = c := by
  rw [List.contains_iff_mem, List.mem_iff_getElem]
  constructor
  · rintro ⟨k, hk, e⟩
    exact ⟨k, hk, e⟩
  · rintro ⟨k, hk, e⟩
    exact ⟨k, hk, e⟩

set_option maxRecDepth 100000 in
set_option maxHeartbeats 4000000 in
theorem rsign_any (s : ByteArray) (hs : s.size ≤ 1000) (h1 : 0 < s.size) (w : World) : Calls Tryd.prog 76 #[.string s] w fun e w' => (∃ T : ByteArray, e = .returned (.string T) ∧ T.data.toList = signS s.data.toList) ∧ Keeps (fun _ => False) w w' := by
  obtain ⟨l, hl⟩ : ∃ l : List UInt8, l = s.data.toList := ⟨_, rfl⟩
  have hlen : l.length = s.size := by rw [hl, len_size]
  have h0 : l[0]? = some s[0] := by rw [hl]; exact at_byte s 0 h1
  rw [← hl]
  have HL := Lib.hid hl
  have HLN := Lib.hid hlen
  have H0 := Lib.hid h0
  clear hl hlen h0
  go_enter Tryd.func76, Tryd.ntmps76
  go_wp2_with fail
  generalize hwA : w.alloc _ = wA
  have kA : Keeps (fun _ => False) w wA := by rw [← hwA]; exact (Keeps.refl _ _).alloc _
  have hc : ∀ k, k < 5 → wA.cell? ⟨w.heap.size, k, none⟩ = some (.string (ofL (twosL.getD k []))) := fun k hk => by
    have h16 : k = 0 ∨ k = 1 ∨ k = 2 ∨ k = 3 ∨ k = 4 := by omega
    rw [← hwA]
    rcases h16 with rfl | rfl | rfl | rfl | rfl <;> (simp; rfl)
  obtain ⟨B, hB⟩ : ∃ B, B = w.heap.size := ⟨_, rfl⟩
  rw [← hB] at hc ⊢
  have KA := Lib.hid kA
  have HC := Lib.hid hc
  clear hwA kA hc hB
  have h2d : ∀ b, b = decide ((2 : Int) ≤ (s.size : Int)) → True := fun _ _ => trivial
  go_loopw [4] (fun s4 wr => ∃ (k n : Nat), k ≤ 5 ∧ s4 = .int .i64 k ∧ (∀ j, j < k → 2 ≤ l.length → twosL.getD j [] ≠ l.take 2) ∧ wr = wA.drewN n) (fun s4 _ => 6 - (intOf s4).toNat)
  case atStart => exact ⟨0, 0, Nat.zero_le _, rfl, fun j h => by omega, rfl⟩
  case round =>
    obtain ⟨k, n, hk, rfl, hno, hw⟩ := hrel
    have HW := Lib.hid hw
    have HNO := Lib.hid hno
    have kr : Keeps (fun _ => False) w wr := KA.out.trans (by rw [hw]; exact drew_keeps wA n) (fun _ _ h => h)
    have KR := Lib.hid kr
    clear hw hno kr h2d
    by_cases h5 : k < 5
    · have h5I : (k : Int) < 5 := by omega
      have h5d : decide ((k : Int) < 5) = true := decide_eq_true h5I
      have hk0 : (0 : Int) ≤ (k : Int) := by omega
      have c0 : wr.cell? ⟨B, k, none⟩ = some (.string (ofL (twosL.getD k []))) := by rw [HW.out]; simpa using HC.out k h5
      obtain ⟨X, hX⟩ : ∃ X : ByteArray, X = ofL (twosL.getD k []) := ⟨_, rfl⟩
      rw [← hX] at c0
      have hXl : X.data.toList = twosL.getD k [] := by rw [hX]; exact ofL_list _
      by_cases h2 : 2 ≤ s.size
      · have h2I : (2 : Int) ≤ (s.size : Int) := by omega
        have h2d : decide ((2 : Int) ≤ (s.size : Int)) = true := decide_eq_true h2I
        have hYl : (s.extract 0 2).data.toList = l.take 2 := by rw [ext_take, HL.out]
        by_cases he : twosL.getD k [] = l.take 2
        · have q : ((s.extract 0 2).toList == X.toList) = true := by rw [toList_data, toList_data, hXl, hYl, he]; simp
          have HT : Hid (X.data.toList = signS l) := by
            unfold signS
            rw [if_pos ((two_get l).2 ⟨k, h5, by rw [HLN.out]; exact h2, he⟩), hXl, he]
            exact Lib.hid rfl
          clear he hX hXl hYl
          go_wp2_with fail
          go_quiet (fail)
          have c0 : (wr.drewN nq).cell? ⟨B, k, none⟩ = some (.string X) := by simpa using c0
          have K2 := Lib.hid (KR.out.trans (drew_keeps wr nq) (fun _ _ h => h))
          go_wp2
          go_ret
          exact ⟨⟨X, rfl, HT.out⟩, K2.out⟩
        · have q : ((s.extract 0 2).toList == X.toList) = false := by rw [toList_data, toList_data, hXl, hYl]; exact beq_eq_false_iff_ne.2 (fun e => he e.symm)
          have HN : Hid (∀ j, j < k + 1 → 2 ≤ l.length → twosL.getD j [] ≠ l.take 2) := fun j hj => by
            rcases Nat.lt_or_ge j k with h3 | h3
            · exact HNO.out j h3
            · obtain rfl : j = k := by omega
              exact fun _ => he
          clear he hX hXl hYl
          go_wp2_with fail
          go_quiet (fail)
          go_wp2
          go_roundw
          case rel => exact ⟨k + 1, n + nq, by omega, by go_num, HN.out, by rw [HW.out, World.drewN_drewN]⟩
          case measure => simp [intOf]; omega
      · have h2d : decide ((2 : Int) ≤ (s.size : Int)) = false := decide_eq_false (by omega)
        have HN : Hid (∀ j, j < k + 1 → 2 ≤ l.length → twosL.getD j [] ≠ l.take 2) := fun j hj h => by have := HLN.out; omega
        clear hX hXl
        go_wp2_with fail
        go_quiet (fail)
        go_wp2
        go_roundw
        case rel => exact ⟨k + 1, n + nq, by omega, by go_num, HN.out, by rw [HW.out, World.drewN_drewN]⟩
        case measure => simp [intOf]; omega
    · obtain rfl : k = 5 := by omega
      have hno2 : isTwo l = false := by
        cases h : isTwo l with
        | false => rfl
        | true =>
          obtain ⟨j, h2, h3, h4⟩ := (two_get l).1 h
          exact absurd h4 (HNO.out j h2 h3)
      have hhd : l.headD 0 = s[0] := by
        have := H0.out
        cases hl : l with
        | nil => rw [hl] at this; cases this
        | cons c r => rw [hl] at this; simpa using this
      have hsg : signS l = if onesL.contains s[0] then l.take 1 else [] := by unfold signS; rw [if_neg (by rw [hno2]; decide), hhd]
      have hl1 : l.take 1 = [s[0]] := by
        have := H0.out
        cases hl : l with
        | nil => rw [hl] at this; cases this
        | cons c r => rw [hl] at this; simp at this; rw [this]; rfl
      rw [hl1] at hsg
      have HSG := Lib.hid hsg
      have hs0 : (0 : Int) < (s.size : Int) := by omega
      clear hno2 hhd hsg hl1
      obtain ⟨wo, rfl⟩ : ∃ wo, wo = wr := ⟨_, rfl⟩
      go_wp2_with fail
      go_loopw [6] (fun s6 wx => ∃ (k m : Nat), k ≤ 16 ∧ s6 = .int .i64 k ∧ (∀ j, ∀ h : j < oneB.size, j < k → oneB[j] ≠ s[0]) ∧ wx = wo.drewN m) (fun s6 _ => 17 - (intOf s6).toNat)
      case atStart => exact ⟨0, 0, Nat.zero_le _, rfl, fun j _ h => by omega, rfl⟩
      case round =>
        obtain ⟨k, m, hk, rfl, hno, hw⟩ := hrel
        have HWX := Lib.hid hw
        have kx : Keeps (fun _ => False) w wr := KR.out.trans (by rw [hw]; exact drew_keeps wo m) (fun _ _ h => h)
        have KX := Lib.hid kx
        have HNO2 := Lib.hid hno
        clear hw kx hno
        by_cases h16 : k < 16
        · have h6I : (k : Int) < 16 := by omega
          have h6d : decide ((k : Int) < 16) = true := decide_eq_true h6I
          have hk0 : (0 : Int) ≤ (k : Int) := by omega
          have hk1 : (k : Int) + 1 ≤ 16 := by omega
          have hkB : k < oneB.size := h16
          by_cases he : oneB[k] = s[0]
          · have q : ((s[0].toNat : Int) == ((({ data := #[40, 41, 123, 125, 91, 93, 44, 59, 61, 60, 43, 45, 42, 47, 37, 33] } : ByteArray)[k]'hkB).toNat : Int)) = true := by
              show ((s[0].toNat : Int) == (oneB[k].toNat : Int)) = true
              rw [he]
              simp
            have hT : (oneB.extract k (k + 1)).data.toList = signS l := by
              rw [HSG.out, if_pos ((one_get _).2 ⟨k, hkB, he⟩), ext_one oneB k hkB, he]
            have HT := Lib.hid hT
            clear he hT
            go_wp2_with fail
            go_quiet (fail)
            have K2 := Lib.hid (KX.out.trans (drew_keeps _ nq) (fun _ _ h => h))
            go_wp2
            go_ret
            exact ⟨⟨_, rfl, HT.out⟩, K2.out⟩
          · have q : ((s[0].toNat : Int) == ((({ data := #[40, 41, 123, 125, 91, 93, 44, 59, 61, 60, 43, 45, 42, 47, 37, 33] } : ByteArray)[k]'hkB).toNat : Int)) = false := by
              show ((s[0].toNat : Int) == (oneB[k].toNat : Int)) = false
              rw [beq_eq_false_iff_ne]
              intro e
              exact he (UInt8.toNat_inj.1 (by omega))
            have HN : Hid (∀ j, ∀ h : j < oneB.size, j < k + 1 → oneB[j] ≠ s[0]) := fun j hj hjk => by
              rcases Nat.lt_or_ge j k with h3 | h3
              · exact HNO2.out j hj h3
              · obtain rfl : j = k := by omega
                exact he
            clear he
            go_wp2_with fail
            go_quiet (fail)
            go_wp2
            go_roundw
            case rel => exact ⟨k + 1, m + nq, by omega, by go_num, HN.out, by rw [HWX.out, World.drewN_drewN]⟩
            case measure => simp [intOf]; omega
        · obtain rfl : k = 16 := by omega
          have hT : ({ data := #[] } : ByteArray).data.toList = signS l := by
            rw [HSG.out, if_neg]
            intro h
            obtain ⟨j, hj, e⟩ := (one_get _).1 h
            exact HNO2.out j hj hj e
          have HT := Lib.hid hT
          clear hT
          go_wp2
          go_ret
          exact ⟨⟨_, rfl, HT.out⟩, KX.out⟩

end Go.Proofs.YtoombjbpblighaaDoor
