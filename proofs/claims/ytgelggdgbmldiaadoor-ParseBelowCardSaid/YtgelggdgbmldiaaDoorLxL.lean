/-
  Layer 1: the contract of first. Written by an AI agent.
-/
import Derived.Test.YtgelggdgbmldiaaDoorLxJ
namespace Go.Proofs.YtgelggdgbmldiaaDoor
open Go.RowKit Go.Shelf
set_option linter.unusedVariables false
set_option linter.unusedSimpArgs false

abbrev Triple (f : Nat) (s : ByteArray) (R : Nat × Nat × Nat) (w : World) : Prop := Calls Tryd.prog f #[.string s] w fun e w' => e = .returned (.tuple #[.int .i64 (R.1 : Nat), .int .i64 (R.2.1 : Nat), .int .i64 (R.2.2 : Nat)]) ∧ Keeps (fun _ => False) w w'

set_option maxRecDepth 100000 in
set_option maxHeartbeats 4000000 in
theorem first_any (s : ByteArray) (hs : s.size ≤ 1000) (h1 : 1 ≤ s.size) (w : World) (he : ErrW w) : Triple 46 s (firstL s.data.toList) w := by
  obtain ⟨c, hc⟩ : ∃ c : UInt8, c = s[0] := ⟨_, rfl⟩
  obtain ⟨r, hr⟩ : ∃ r, s.data.toList = c :: r := by
    have h2 := at_byte s 0 (by omega)
    rw [← hc] at h2
    cases hl : s.data.toList with
    | nil => rw [hl] at h2; simp at h2
    | cons d r => rw [hl] at h2; exact ⟨r, by rw [show d = c by simpa using h2]⟩
  have hsz0 : 0 < s.size := by omega
  have hsz : (0 : Int) < (s.size : Int) := by omega
  have HE := Lib.hid he
  have D := Lib.hid (fun w => tells_dig w c)
  have L := Lib.hid (fun w => tells_ltr w c)
  have HC := Lib.hid hc
  obtain ⟨R, hR⟩ : ∃ R : Nat × Nat × Nat, R = firstL s.data.toList := ⟨_, rfl⟩
  have hF := hR
  rw [hr, firstL_cons] at hF
  rw [← hR]
  unfold Triple
  clear he hc hR
  cases hd : dig c with
  | true =>
    rw [hd] at D hF
    rw [if_pos rfl] at hF
    have NC : Hid (∀ w1, Keeps (fun _ => False) w w1 → Triple 73 s R w1) := fun w1 k => by
      rw [hF, ← hr]
      refine number_any s hs ?_ w1 (HE.out.keep k)
      rw [hr]
      show 1 ≤ (if dig c then runL dig r + 1 else 0)
      rw [hd]
      show 1 ≤ runL dig r + 1
      omega
    clear hd hF hr L
    go_enter Tryd.func46, Tryd.ntmps46
    go_wp2_with fail
    rw [← HC.out]
    refine (D.out _).mono ?_
    rintro e w1 ⟨rfl, k1⟩
    have N1 := Lib.hid (NC.out w1 k1)
    have K1 := Lib.hid k1
    clear k1
    go_wp2_with fail
    refine N1.out.mono ?_
    rintro e w2 ⟨rfl, k2⟩
    have K2 := Lib.hid (K1.out.trans k2 (fun _ _ h => h))
    clear k2
    go_wp2
    go_ret3
    exact ⟨rfl, K2.out⟩
  | false =>
    rw [hd] at D hF
    rw [if_neg (by decide)] at hF
    cases hlt : ltr c with
    | true =>
      rw [hlt] at L hF
      rw [if_pos rfl] at hF
      have NC : Hid (∀ w1, Keeps (fun _ => False) w w1 → Triple 75 s R w1) := fun w1 k => by
        rw [hF, ← hr]
        exact name_any s hs w1
      clear hd hlt hF hr
      go_enter Tryd.func46, Tryd.ntmps46
      go_wp2_with fail
      rw [← HC.out]
      refine (D.out _).mono ?_
      rintro e w1 ⟨rfl, k1⟩
      have K1 := Lib.hid k1
      clear k1
      go_wp2_with fail
      try rw [← HC.out]
      refine (L.out _).mono ?_
      rintro e w1b ⟨rfl, k1⟩
      have k2 := K1.out.trans k1 (T := fun _ => False) (fun _ _ h => h)
      have N1 := Lib.hid (NC.out w1b k2)
      have K1 := Lib.hid k2
      clear k1 k2
      go_wp2_with fail
      refine N1.out.mono ?_
      rintro e w2 ⟨rfl, k2⟩
      have K2 := Lib.hid (K1.out.trans k2 (fun _ _ h => h))
      clear k2
      go_wp2
      go_ret3
      exact ⟨rfl, K2.out⟩
    | false =>
      rw [hlt] at L hF
      rw [if_neg (by decide)] at hF
      by_cases hq : c = 34
      · rw [if_pos hq] at hF
        have hb : ((s[0].toNat : Int) == 34) = true := by rw [← HC.out, hq]; rfl
        have HQ := Lib.hid hq
        have NC : Hid (∀ w1, Keeps (fun _ => False) w w1 → Triple 76 s R w1) := fun w1 k => by
          have h := text_any s hs h1 w1
          rw [hr, List.drop_succ_cons, List.drop_zero, ← hF] at h
          exact h
        clear hd hlt hF hr hq hb
        go_enter Tryd.func46, Tryd.ntmps46
        go_wp2_with fail
        rw [← HC.out]
        refine (D.out _).mono ?_
        rintro e w1 ⟨rfl, k1⟩
        have K1 := Lib.hid k1
        clear k1
        go_wp2_with fail
        refine (L.out _).mono ?_
        rintro e w1b ⟨rfl, k1⟩
        have hbc : ((c.toNat : Int) == 34) = true := by rw [HQ.out]; rfl
        have k2 := K1.out.trans k1 (T := fun _ => False) (fun _ _ h => h)
        have N1 := Lib.hid (NC.out w1b k2)
        have K1 := Lib.hid k2
        clear k1 k2
        go_wp2_with fail
        refine N1.out.mono ?_
        rintro e w2 ⟨rfl, k2⟩
        have K2 := Lib.hid (K1.out.trans k2 (fun _ _ h => h))
        clear k2
        go_wp2
        go_ret3
        exact ⟨rfl, K2.out⟩
      · rw [if_neg hq] at hF
        have h34 : c.toNat ≠ 34 := fun h => hq (UInt8.toNat_inj.1 (h.trans (show 34 = (34 : UInt8).toNat from rfl)))
        have hbc : ((c.toNat : Int) == 34) = false := beq_eq_false_iff_ne.2 (fun h => h34 (by omega))
        have hb : ((s[0].toNat : Int) == 34) = false := by rw [← HC.out]; exact hbc
        have NC : Hid (∀ w1, Keeps (fun _ => False) w w1 → Triple 77 s R w1) := fun w1 k => by
          have h := sign_any s hs h1 w1
          rw [hr, ← hF] at h
          exact h
        clear hd hlt hF hr h34
        go_enter Tryd.func46, Tryd.ntmps46
        go_wp2_with fail
        rw [← HC.out]
        refine (D.out _).mono ?_
        rintro e w1 ⟨rfl, k1⟩
        have K1 := Lib.hid k1
        clear k1
        go_wp2_with fail
        try rw [← HC.out]
        refine (L.out _).mono ?_
        rintro e w1b ⟨rfl, k1⟩
        have k2 := K1.out.trans k1 (T := fun _ => False) (fun _ _ h => h)
        have N1 := Lib.hid (NC.out w1b k2)
        have K1 := Lib.hid k2
        clear k1 k2
        go_wp2_with fail
        refine N1.out.mono ?_
        rintro e w2 ⟨rfl, k2⟩
        have K2 := Lib.hid (K1.out.trans k2 (fun _ _ h => h))
        clear k2
        go_wp2
        go_ret3
        exact ⟨rfl, K2.out⟩

end Go.Proofs.YtgelggdgbmldiaaDoor
