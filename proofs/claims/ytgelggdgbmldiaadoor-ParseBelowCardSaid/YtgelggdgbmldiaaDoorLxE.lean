/-
  Layer 1: the contracts of digit, letter, blank, and of how many bytes are of a kind. Written by an AI agent.
-/
import Derived.Test.YtgelggdgbmldiaaDoorLxK
namespace Go.Proofs.YtgelggdgbmldiaaDoor
open Go.RowKit
set_option linter.unusedVariables false
set_option linter.unusedSimpArgs false

theorem u8_lt (c : UInt8) : c.toNat < 256 := c.toNat_lt

/-- A function that tells of each byte whether it is of a kind. -/
def Tells (f : Nat) (p : UInt8 → Bool) : Prop := ∀ (w : World) (c : UInt8), Calls Tryd.prog f #[.int .u8 (c.toNat : Int)] w fun e w' => e = .returned (.bool (p c)) ∧ Keeps (fun _ => False) w w'

set_option maxHeartbeats 1000000 in
theorem tells_dig : Tells 72 dig := fun w c => by
  have hc := u8_lt c
  by_cases h0 : 48 ≤ c.toNat
  · by_cases h1 : c.toNat ≤ 57
    · have hv : dig c = true := by unfold dig; simp only [Bool.and_eq_true, Bool.or_eq_true, decide_eq_true_eq, Bool.not_eq_true', decide_eq_false_iff_not]; omega
      rw [hv]
      clear hv
      generalize c.toNat = n at *
      have e0 : (48 : Int) ≤ (n : Int) := by omega
      have f0 : decide ((48 : Int) ≤ (n : Int)) = true := decide_eq_true e0
      have e1 : (n : Int) ≤ 57 := by omega
      have f1 : decide ((n : Int) ≤ 57) = true := decide_eq_true e1
      go_enter Tryd.func72, Tryd.ntmps72
      go_wp2
      go_ret
      exact ⟨rfl, Keeps.refl _ _⟩
    · have hv : dig c = false := Bool.eq_false_iff.2 (fun h => by unfold dig at h; simp only [Bool.and_eq_true, Bool.or_eq_true, decide_eq_true_eq, Bool.not_eq_true', decide_eq_false_iff_not] at h; omega)
      rw [hv]
      clear hv
      generalize c.toNat = n at *
      have e0 : (48 : Int) ≤ (n : Int) := by omega
      have f0 : decide ((48 : Int) ≤ (n : Int)) = true := decide_eq_true e0
      have e1 : ¬ (n : Int) ≤ 57 := by omega
      have f1 : decide ((n : Int) ≤ 57) = false := decide_eq_false e1
      go_enter Tryd.func72, Tryd.ntmps72
      go_wp2
      go_ret
      exact ⟨rfl, Keeps.refl _ _⟩
  · have hv : dig c = false := Bool.eq_false_iff.2 (fun h => by unfold dig at h; simp only [Bool.and_eq_true, Bool.or_eq_true, decide_eq_true_eq, Bool.not_eq_true', decide_eq_false_iff_not] at h; omega)
    rw [hv]
    clear hv
    generalize c.toNat = n at *
    have e0 : ¬ (48 : Int) ≤ (n : Int) := by omega
    have f0 : decide ((48 : Int) ≤ (n : Int)) = false := decide_eq_false e0
    go_enter Tryd.func72, Tryd.ntmps72
    go_wp2
    go_ret
    exact ⟨rfl, Keeps.refl _ _⟩

set_option maxHeartbeats 1000000 in
theorem tells_ltr : Tells 74 ltr := fun w c => by
  have hc := u8_lt c
  by_cases h0 : 97 ≤ c.toNat
  · by_cases h1 : c.toNat ≤ 122
    · have hv : ltr c = true := by unfold ltr; simp only [Bool.and_eq_true, Bool.or_eq_true, decide_eq_true_eq, Bool.not_eq_true', decide_eq_false_iff_not]; omega
      rw [hv]
      clear hv
      generalize c.toNat = n at *
      have e0 : (97 : Int) ≤ (n : Int) := by omega
      have f0 : decide ((97 : Int) ≤ (n : Int)) = true := decide_eq_true e0
      have e1 : (n : Int) ≤ 122 := by omega
      have f1 : decide ((n : Int) ≤ 122) = true := decide_eq_true e1
      go_enter Tryd.func74, Tryd.ntmps74
      go_wp2
      go_ret
      exact ⟨rfl, Keeps.refl _ _⟩
    · by_cases h2 : 65 ≤ c.toNat
      · by_cases h3 : c.toNat ≤ 90
        · exfalso; omega
        · have hv : ltr c = false := Bool.eq_false_iff.2 (fun h => by unfold ltr at h; simp only [Bool.and_eq_true, Bool.or_eq_true, decide_eq_true_eq, Bool.not_eq_true', decide_eq_false_iff_not] at h; omega)
          rw [hv]
          clear hv
          generalize c.toNat = n at *
          have e0 : (97 : Int) ≤ (n : Int) := by omega
          have f0 : decide ((97 : Int) ≤ (n : Int)) = true := decide_eq_true e0
          have e1 : ¬ (n : Int) ≤ 122 := by omega
          have f1 : decide ((n : Int) ≤ 122) = false := decide_eq_false e1
          have e2 : (65 : Int) ≤ (n : Int) := by omega
          have f2 : decide ((65 : Int) ≤ (n : Int)) = true := decide_eq_true e2
          have e3 : ¬ (n : Int) ≤ 90 := by omega
          have f3 : decide ((n : Int) ≤ 90) = false := decide_eq_false e3
          go_enter Tryd.func74, Tryd.ntmps74
          go_wp2
          go_ret
          exact ⟨rfl, Keeps.refl _ _⟩
      · exfalso; omega
  · by_cases h1 : 65 ≤ c.toNat
    · by_cases h2 : c.toNat ≤ 90
      · have hv : ltr c = true := by unfold ltr; simp only [Bool.and_eq_true, Bool.or_eq_true, decide_eq_true_eq, Bool.not_eq_true', decide_eq_false_iff_not]; omega
        rw [hv]
        clear hv
        generalize c.toNat = n at *
        have e0 : ¬ (97 : Int) ≤ (n : Int) := by omega
        have f0 : decide ((97 : Int) ≤ (n : Int)) = false := decide_eq_false e0
        have e1 : (65 : Int) ≤ (n : Int) := by omega
        have f1 : decide ((65 : Int) ≤ (n : Int)) = true := decide_eq_true e1
        have e2 : (n : Int) ≤ 90 := by omega
        have f2 : decide ((n : Int) ≤ 90) = true := decide_eq_true e2
        go_enter Tryd.func74, Tryd.ntmps74
        go_wp2
        go_ret
        exact ⟨rfl, Keeps.refl _ _⟩
      · have hv : ltr c = false := Bool.eq_false_iff.2 (fun h => by unfold ltr at h; simp only [Bool.and_eq_true, Bool.or_eq_true, decide_eq_true_eq, Bool.not_eq_true', decide_eq_false_iff_not] at h; omega)
        rw [hv]
        clear hv
        generalize c.toNat = n at *
        have e0 : ¬ (97 : Int) ≤ (n : Int) := by omega
        have f0 : decide ((97 : Int) ≤ (n : Int)) = false := decide_eq_false e0
        have e1 : (65 : Int) ≤ (n : Int) := by omega
        have f1 : decide ((65 : Int) ≤ (n : Int)) = true := decide_eq_true e1
        have e2 : ¬ (n : Int) ≤ 90 := by omega
        have f2 : decide ((n : Int) ≤ 90) = false := decide_eq_false e2
        go_enter Tryd.func74, Tryd.ntmps74
        go_wp2
        go_ret
        exact ⟨rfl, Keeps.refl _ _⟩
    · have hv : ltr c = false := Bool.eq_false_iff.2 (fun h => by unfold ltr at h; simp only [Bool.and_eq_true, Bool.or_eq_true, decide_eq_true_eq, Bool.not_eq_true', decide_eq_false_iff_not] at h; omega)
      rw [hv]
      clear hv
      generalize c.toNat = n at *
      have e0 : ¬ (97 : Int) ≤ (n : Int) := by omega
      have f0 : decide ((97 : Int) ≤ (n : Int)) = false := decide_eq_false e0
      have e1 : ¬ (65 : Int) ≤ (n : Int) := by omega
      have f1 : decide ((65 : Int) ≤ (n : Int)) = false := decide_eq_false e1
      go_enter Tryd.func74, Tryd.ntmps74
      go_wp2
      go_ret
      exact ⟨rfl, Keeps.refl _ _⟩

set_option maxHeartbeats 1000000 in
theorem tells_blk : Tells 43 blk := fun w c => by
  have hc := u8_lt c
  by_cases h0 : c.toNat = 32
  · have hv : blk c = true := by unfold blk; simp only [Bool.and_eq_true, Bool.or_eq_true, decide_eq_true_eq, Bool.not_eq_true', decide_eq_false_iff_not]; omega
    rw [hv]
    clear hv
    generalize c.toNat = n at *
    obtain rfl : n = 32 := by omega
    go_enter Tryd.func43, Tryd.ntmps43
    go_wp2
    go_ret
    exact ⟨rfl, Keeps.refl _ _⟩
  · by_cases h1 : c.toNat = 9
    · have hv : blk c = true := by unfold blk; simp only [Bool.and_eq_true, Bool.or_eq_true, decide_eq_true_eq, Bool.not_eq_true', decide_eq_false_iff_not]; omega
      rw [hv]
      clear hv
      generalize c.toNat = n at *
      obtain rfl : n = 9 := by omega
      go_enter Tryd.func43, Tryd.ntmps43
      go_wp2
      go_ret
      exact ⟨rfl, Keeps.refl _ _⟩
    · by_cases h2 : c.toNat = 13
      · have hv : blk c = true := by unfold blk; simp only [Bool.and_eq_true, Bool.or_eq_true, decide_eq_true_eq, Bool.not_eq_true', decide_eq_false_iff_not]; omega
        rw [hv]
        clear hv
        generalize c.toNat = n at *
        obtain rfl : n = 13 := by omega
        go_enter Tryd.func43, Tryd.ntmps43
        go_wp2
        go_ret
        exact ⟨rfl, Keeps.refl _ _⟩
      · by_cases h3 : c.toNat = 10
        · have hv : blk c = true := by unfold blk; simp only [Bool.and_eq_true, Bool.or_eq_true, decide_eq_true_eq, Bool.not_eq_true', decide_eq_false_iff_not]; omega
          rw [hv]
          clear hv
          generalize c.toNat = n at *
          obtain rfl : n = 10 := by omega
          go_enter Tryd.func43, Tryd.ntmps43
          go_wp2
          go_ret
          exact ⟨rfl, Keeps.refl _ _⟩
        · have hv : blk c = false := Bool.eq_false_iff.2 (fun h => by unfold blk at h; simp only [Bool.and_eq_true, Bool.or_eq_true, decide_eq_true_eq, Bool.not_eq_true', decide_eq_false_iff_not] at h; omega)
          rw [hv]
          clear hv
          generalize c.toNat = n at *
          have e0 : ((n : Int) == 32) = false := by simp; omega
          have f0 : ((n : Int) != 32) = true := by simp; omega
          have e1 : ((n : Int) == 9) = false := by simp; omega
          have f1 : ((n : Int) != 9) = true := by simp; omega
          have e2 : ((n : Int) == 13) = false := by simp; omega
          have f2 : ((n : Int) != 13) = true := by simp; omega
          have e3 : ((n : Int) == 10) = false := by simp; omega
          have f3 : ((n : Int) != 10) = true := by simp; omega
          go_enter Tryd.func43, Tryd.ntmps43
          go_wp2
          go_ret
          exact ⟨rfl, Keeps.refl _ _⟩

set_option maxHeartbeats 1000000 in
theorem tells_txc : Tells 108 txc := fun w c => by
  have hc := u8_lt c
  by_cases h0 : 32 ≤ c.toNat
  · by_cases h1 : c.toNat ≤ 126
    · by_cases h2 : c.toNat = 34
      · have hv : txc c = false := Bool.eq_false_iff.2 (fun h => by unfold txc at h; simp only [Bool.and_eq_true, Bool.or_eq_true, decide_eq_true_eq, Bool.not_eq_true', decide_eq_false_iff_not] at h; omega)
        rw [hv]
        clear hv
        generalize c.toNat = n at *
        obtain rfl : n = 34 := by omega
        go_enter Tryd.func108, Tryd.ntmps108
        go_wp2
        go_ret
        exact ⟨rfl, Keeps.refl _ _⟩
      · have hv : txc c = true := by unfold txc; simp only [Bool.and_eq_true, Bool.or_eq_true, decide_eq_true_eq, Bool.not_eq_true', decide_eq_false_iff_not]; omega
        rw [hv]
        clear hv
        generalize c.toNat = n at *
        have e0 : (32 : Int) ≤ (n : Int) := by omega
        have f0 : decide ((32 : Int) ≤ (n : Int)) = true := decide_eq_true e0
        have e1 : (n : Int) ≤ 126 := by omega
        have f1 : decide ((n : Int) ≤ 126) = true := decide_eq_true e1
        have e2 : ((n : Int) == 34) = false := by simp; omega
        have f2 : ((n : Int) != 34) = true := by simp; omega
        go_enter Tryd.func108, Tryd.ntmps108
        go_wp2
        go_ret
        exact ⟨rfl, Keeps.refl _ _⟩
    · have hv : txc c = false := Bool.eq_false_iff.2 (fun h => by unfold txc at h; simp only [Bool.and_eq_true, Bool.or_eq_true, decide_eq_true_eq, Bool.not_eq_true', decide_eq_false_iff_not] at h; omega)
      rw [hv]
      clear hv
      generalize c.toNat = n at *
      have e0 : (32 : Int) ≤ (n : Int) := by omega
      have f0 : decide ((32 : Int) ≤ (n : Int)) = true := decide_eq_true e0
      have e1 : ¬ (n : Int) ≤ 126 := by omega
      have f1 : decide ((n : Int) ≤ 126) = false := decide_eq_false e1
      go_enter Tryd.func108, Tryd.ntmps108
      go_wp2
      go_ret
      exact ⟨rfl, Keeps.refl _ _⟩
  · have hv : txc c = false := Bool.eq_false_iff.2 (fun h => by unfold txc at h; simp only [Bool.and_eq_true, Bool.or_eq_true, decide_eq_true_eq, Bool.not_eq_true', decide_eq_false_iff_not] at h; omega)
    rw [hv]
    clear hv
    generalize c.toNat = n at *
    have e0 : ¬ (32 : Int) ≤ (n : Int) := by omega
    have f0 : decide ((32 : Int) ≤ (n : Int)) = false := decide_eq_false e0
    go_enter Tryd.func108, Tryd.ntmps108
    go_wp2
    go_ret
    exact ⟨rfl, Keeps.refl _ _⟩

set_option maxHeartbeats 1000000 in
theorem tells_nmc : Tells 106 nmc := fun w c => by
  have L := Lib.hid (tells_ltr w c)
  cases hl : ltr c with
  | true =>
    have hv : nmc c = true := by unfold nmc; rw [hl]; rfl
    rw [hl] at L
    rw [hv]
    clear hv hl
    generalize c.toNat = n at *
    go_enter Tryd.func106, Tryd.ntmps106
    go_wp2_with fail
    refine L.out.mono ?_
    rintro e w1 ⟨rfl, k1⟩
    have K1 := Lib.hid k1
    clear k1
    go_wp2
    go_ret
    exact ⟨rfl, K1.out⟩
  | false =>
    rw [hl] at L
    have D : Hid (∀ w, Calls Tryd.prog 72 #[.int .u8 (c.toNat : Int)] w fun e w' => e = .returned (.bool (dig c)) ∧ Keeps (fun _ => False) w w') := fun w => tells_dig w c
    cases hd : dig c with
    | true =>
      have hv : nmc c = true := by unfold nmc; rw [hl, hd]; rfl
      rw [hd] at D
      rw [hv]
      clear hv hl hd
      generalize c.toNat = n at *
      go_enter Tryd.func106, Tryd.ntmps106
      go_wp2_with fail
      refine L.out.mono ?_
      rintro e w1 ⟨rfl, k1⟩
      have K1 := Lib.hid k1
      clear k1
      go_wp2_with fail
      refine (D.out w1).mono ?_
      rintro e w2 ⟨rfl, k2⟩
      have K2 := Lib.hid (K1.out.trans k2 (fun _ _ h => h))
      clear k2
      go_wp2
      go_ret
      exact ⟨rfl, K2.out⟩
    | false =>
      rw [hd] at D
      by_cases h95 : c.toNat = 95
      · have hv : nmc c = true := by unfold nmc; rw [hl, hd, decide_eq_true h95]; rfl
        rw [hv]
        clear hv hl hd
        generalize c.toNat = n at *
        subst h95
        go_enter Tryd.func106, Tryd.ntmps106
        go_wp2_with fail
        refine L.out.mono ?_
        rintro e w1 ⟨rfl, k1⟩
        have K1 := Lib.hid k1
        clear k1
        go_wp2_with fail
        refine (D.out w1).mono ?_
        rintro e w2 ⟨rfl, k2⟩
        have K2 := Lib.hid (K1.out.trans k2 (fun _ _ h => h))
        clear k2
        go_wp2
        go_ret
        exact ⟨rfl, K2.out⟩
      · have hv : nmc c = false := by unfold nmc; rw [hl, hd, decide_eq_false h95]; rfl
        rw [hv]
        clear hv hl hd
        generalize c.toNat = n at *
        have e95 : ((n : Int) == 95) = false := by simp; omega
        go_enter Tryd.func106, Tryd.ntmps106
        go_wp2_with fail
        refine L.out.mono ?_
        rintro e w1 ⟨rfl, k1⟩
        have K1 := Lib.hid k1
        clear k1
        go_wp2_with fail
        refine (D.out w1).mono ?_
        rintro e w2 ⟨rfl, k2⟩
        have K2 := Lib.hid (K1.out.trans k2 (fun _ _ h => h))
        clear k2
        go_wp2
        go_ret
        exact ⟨rfl, K2.out⟩

end Go.Proofs.YtgelggdgbmldiaaDoor
