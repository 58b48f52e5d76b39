/-
  Layer 1: the contract of number. Written by an AI agent.
-/
import Derived.Test.YtgelggdgbmldiaaDoorLxH
namespace Go.Proofs.YtgelggdgbmldiaaDoor
open Go.RowKit Go.Shelf
set_option linter.unusedVariables false
set_option linter.unusedSimpArgs false

def numA (a : Nat) (l : List UInt8) : Nat := l.foldl (fun a c => a * 10 + (c.toNat - 48)) a
theorem numA_le (a : Nat) (l : List UInt8) : a ≤ numA a l := by
  induction l generalizing a with
  | nil => exact Nat.le_refl _
  | cons c r ih =>
    have h := ih (a * 10 + (c.toNat - 48))
    show a ≤ numA (a * 10 + (c.toNat - 48)) r
    omega
theorem numA_cons (a : Nat) (c : UInt8) (r : List UInt8) : numA a (c :: r) = numA (a * 10 + (c.toNat - 48)) r := by unfold numA; rw [List.foldl_cons]

theorem parseM_ok (l : List UInt8) (hd : ∀ c ∈ l, dig c = true) (M : Nat) (hM : M = 18446744073709551615) (a : Nat) (h : numA a l ≤ M) : Lib.parseUintM M a l = .ok (numA a l) := by
  induction l generalizing a with
  | nil => unfold Lib.parseUintM; unfold numA; rw [List.foldl_nil]
  | cons c r ih =>
    have h1 := hd c (by simp)
    unfold dig at h1
    simp only [Bool.and_eq_true, decide_eq_true_eq] at h1
    rw [numA_cons] at h ⊢
    have h2 := numA_le (a * 10 + (c.toNat - 48)) r
    have hr := ih (fun d hd2 => hd d (by simp [hd2])) _ h
    have h3 : ¬ 1844674407370955162 ≤ a := fun h5 => by omega
    have h4 : ¬ M < a * 10 + (c.toNat - 48) := fun h5 => by omega
    unfold Lib.parseUintM
    rw [if_pos h1, if_neg h3, if_neg h4]
    exact hr
theorem parseM_range (l : List UInt8) (hd : ∀ c ∈ l, dig c = true) (M : Nat) (hM : M = 18446744073709551615) (a : Nat) (ha : a ≤ M) (h : M < numA a l) : Lib.parseUintM M a l = .range := by
  induction l generalizing a with
  | nil => exact absurd h (by show ¬ M < a; omega)
  | cons c r ih =>
    have h1 := hd c (by simp)
    unfold dig at h1
    simp only [Bool.and_eq_true, decide_eq_true_eq] at h1
    rw [numA_cons] at h
    unfold Lib.parseUintM
    rw [if_pos h1]
    by_cases h2 : 1844674407370955162 ≤ a
    · rw [if_pos h2]
    · rw [if_neg h2]
      by_cases h3 : M < a * 10 + (c.toNat - 48)
      · rw [if_pos h3]
      · rw [if_neg h3]
        exact ih (fun d hd2 => hd d (by simp [hd2])) _ (by omega) h

theorem parse_digits (l : List UInt8) (hne : l ≠ []) (hd : ∀ c ∈ l, dig c = true) : Lib.parseIntB 64 l = if numV l ≤ 9223372036854775807 then .ok ((numV l : Nat) : Int) else .range := by
  obtain ⟨c, r, rfl⟩ := List.exists_cons_of_ne_nil hne
  have h1 := hd c (by simp)
  unfold dig at h1
  simp only [Bool.and_eq_true, decide_eq_true_eq] at h1
  have e1 : ¬ c.toNat = 45 := by omega
  have e2 : ¬ (c.toNat = 43 ∨ c.toNat = 45) := by omega
  unfold Lib.parseIntB
  simp only [if_neg e2]
  unfold Lib.parseUintB
  rw [if_neg hne]
  obtain ⟨M, hM⟩ : ∃ M : Nat, M = 2 ^ 64 - 1 := ⟨_, rfl⟩
  have hM2 : M = 18446744073709551615 := by rw [hM]
  rw [← hM]
  have hv : numV (c :: r) = numA 0 (c :: r) := rfl
  by_cases h : numA 0 (c :: r) ≤ M
  · rw [parseM_ok _ hd M hM2 0 h]
    rw [hv]
    by_cases h2 : numA 0 (c :: r) ≤ 9223372036854775807
    · rw [if_pos h2]
      simp only [e1, not_false_eq_true, true_and, false_and, if_false]
      rw [if_neg (by omega)]
    · rw [if_neg h2]
      simp only [e1, not_false_eq_true, true_and, false_and, if_false]
      rw [if_pos (by omega)]
  · rw [parseM_range _ hd M hM2 0 (by omega) (by omega)]
    rw [hv, if_neg (by omega)]

/-- The library's variable for numbers that are too great holds an error. -/
def ErrW (w : World) : Prop := ∃ b tp p, Tryd.prog.globalNamed "strconv.ErrRange" = some b ∧ b < w.heap.size ∧ w.var? Tryd.prog "strconv.ErrRange" = some #[.iface tp p]
theorem ErrW.keep {w w' : World} (h : ErrW w) (hk : Keeps (fun _ => False) w w') : ErrW w' := by
  obtain ⟨b, tp, p, hg, hb, hv⟩ := h
  refine ⟨b, tp, p, hg, Nat.lt_of_lt_of_le hb hk.size, ?_⟩
  unfold World.var? at hv ⊢
  rw [hg] at hv ⊢
  simp only [Option.bind_some] at hv ⊢
  rw [hk.block b hb (fun h => h)]
  exact hv

theorem keeps_bytes (w : World) (t5 : TypeId) (t : ByteArray) (w' : World) (h : w' = w ∨ ∃ t, w' = Lib.bytesWorld w t5 t) : Keeps (fun _ => False) w w' := by
  rcases h with rfl | ⟨t, rfl⟩
  · exact Keeps.refl _ _
  · exact Keeps.ofBelow (Lib.bytesWorld_below _ _ _)

/-- ParseInt at digits. -/
theorem parse_any (s : ByteArray) (hs : s.size ≤ 1000) (hne : s.data.toList ≠ []) (hd : ∀ c ∈ s.data.toList, dig c = true) (w : World) (he : ErrW w) :
    Calls Tryd.prog 105 #[.string s, .int .i64 10, .int .i64 64] w fun e w' => (∃ v x, e = .returned (.tuple #[.int .i64 v, x]) ∧ ((numV s.data.toList ≤ 9223372036854775807 ∧ x = .nilIface) ∨ (¬ numV s.data.toList ≤ 9223372036854775807 ∧ ∃ tp p, x = .iface tp p))) ∧ Keeps (fun _ => False) w w' := by
  have hp := parse_digits s.data.toList hne hd
  by_cases h : numV s.data.toList ≤ 9223372036854775807
  · rw [if_pos h] at hp
    exact (Any.strconv_ParseInt_10_at64_ok laysParseInt s (by omega) _ hp w).mono fun e w' ⟨e1, e2⟩ => ⟨⟨_, _, e1, .inl ⟨h, rfl⟩⟩, keeps_bytes w _ s w' e2⟩
  · rw [if_neg h] at hp
    obtain ⟨b, tp, p, hg, hb, hv⟩ := he
    exact (Any.strconv_ParseInt_10_at64_range_var laysParseInt s (by omega) hp tp p w hv).mono fun e w' ⟨N, e1, e2, e3, e4⟩ => ⟨⟨_, _, e1, .inr ⟨h, _, _, rfl⟩⟩, Keeps.ofBelow e4⟩

set_option maxHeartbeats 2000000 in
theorem number_any (s : ByteArray) (hs : s.size ≤ 1000) (h1 : 1 ≤ runL dig s.data.toList) (w : World) (he : ErrW w) : Calls Tryd.prog 73 #[.string s] w fun e w' => e = .returned (.tuple #[.int .i64 ((numberL s.data.toList).1 : Nat), .int .i64 ((numberL s.data.toList).2.1 : Nat), .int .i64 ((numberL s.data.toList).2.2 : Nat)]) ∧ Keeps (fun _ => False) w w' := by
  have RC := Lib.hid (run_any 72 dig tells_dig enter66 s hs w)
  obtain ⟨n, hn⟩ : ∃ n : Nat, n = runL dig s.data.toList := ⟨_, rfl⟩
  have hle : n ≤ s.size := by rw [hn, ← len_size]; exact runL_le _ _
  have hall := runL_all dig s.data.toList
  rw [← hn] at h1 hall RC
  have PC : Hid (∀ w1, Keeps (fun _ => False) w w1 → Calls Tryd.prog 105 #[.string (s.extract 0 n), .int .i64 10, .int .i64 64] w1 fun e w' => (∃ v x, e = .returned (.tuple #[.int .i64 v, x]) ∧ ((numV (s.data.toList.take n) ≤ 9223372036854775807 ∧ x = .nilIface) ∨ (¬ numV (s.data.toList.take n) ≤ 9223372036854775807 ∧ ∃ tp p, x = .iface tp p))) ∧ Keeps (fun _ => False) w1 w') := fun w1 hk => by
    have hl : (s.data.toList.take n).length = n := by rw [List.length_take, len_size]; omega
    have h := parse_any (s.extract 0 n) (by rw [ext_size s n hle]; omega) (by rw [ext_take]; intro e; rw [e] at hl; simp at hl; omega) (by rw [ext_take]; exact hall) w1 (he.keep hk)
    rw [ext_take] at h
    exact h
  have hv : numberL s.data.toList = if numV (s.data.toList.take n) ≤ 9223372036854775807 ∧ n ≤ 19 then (1, n, 0) else (0, 0, 12) := by unfold numberL; rw [← hn]
  rw [hv]
  have hleI : (n : Int) ≤ (s.size : Int) := by omega
  have hn0 : (0 : Int) ≤ (n : Int) := by omega
  clear hv hn hall he
  by_cases hnum : numV (s.data.toList.take n) ≤ 9223372036854775807
  · have PC : Hid (∀ w1, Keeps (fun _ => False) w w1 → Calls Tryd.prog 105 #[.string (s.extract 0 n), .int .i64 10, .int .i64 64] w1 fun e w' => (∃ v, e = .returned (.tuple #[.int .i64 v, .nilIface])) ∧ Keeps (fun _ => False) w1 w') := fun w1 hk => (PC.out w1 hk).mono fun e w' h => by
      obtain ⟨⟨v, x, e1, h2⟩, h3⟩ := h
      rcases h2 with ⟨_, rfl⟩ | ⟨h4, _⟩
      · exact ⟨⟨v, e1⟩, h3⟩
      · exact absurd hnum h4
    by_cases h19 : n ≤ 19
    · have h19I : ¬ (19 : Int) < (n : Int) := by omega
      have hd : decide ((19 : Int) < (n : Int)) = false := decide_eq_false h19I
      rw [if_pos ⟨hnum, h19⟩]
      clear hnum
      go_enter Tryd.func73, Tryd.ntmps73
      go_wp2_with fail
      refine RC.out.mono ?_
      rintro e w1 ⟨rfl, k1⟩
      have P1 := Lib.hid (PC.out w1 k1)
      have K1 := Lib.hid k1
      clear k1
      go_wp2_with fail
      refine P1.out.mono ?_
      rintro e w2 ⟨⟨v, rfl⟩, k2⟩
      have K2 := Lib.hid (K1.out.trans k2 (fun _ _ h => h))
      clear k2
      go_wp2
      go_ret3
      exact ⟨rfl, K2.out⟩
    · have h19I : (19 : Int) < (n : Int) := by omega
      have hd : decide ((19 : Int) < (n : Int)) = true := decide_eq_true h19I
      rw [if_neg (fun h => h19 h.2)]
      clear hnum
      go_enter Tryd.func73, Tryd.ntmps73
      go_wp2_with fail
      refine RC.out.mono ?_
      rintro e w1 ⟨rfl, k1⟩
      have P1 := Lib.hid (PC.out w1 k1)
      have K1 := Lib.hid k1
      clear k1
      go_wp2_with fail
      refine P1.out.mono ?_
      rintro e w2 ⟨⟨v, rfl⟩, k2⟩
      have K2 := Lib.hid (K1.out.trans k2 (fun _ _ h => h))
      clear k2
      go_wp2
      go_ret3
      exact ⟨rfl, K2.out⟩
  · have PC : Hid (∀ w1, Keeps (fun _ => False) w w1 → Calls Tryd.prog 105 #[.string (s.extract 0 n), .int .i64 10, .int .i64 64] w1 fun e w' => (∃ v tp p, e = .returned (.tuple #[.int .i64 v, .iface tp p])) ∧ Keeps (fun _ => False) w1 w') := fun w1 hk => (PC.out w1 hk).mono fun e w' h => by
      obtain ⟨⟨v, x, e1, h2⟩, h3⟩ := h
      rcases h2 with ⟨h4, _⟩ | ⟨_, tp, p, rfl⟩
      · exact absurd h4 hnum
      · exact ⟨⟨v, tp, p, e1⟩, h3⟩
    rw [if_neg (fun h => hnum h.1)]
    clear hnum
    go_enter Tryd.func73, Tryd.ntmps73
    go_wp2_with fail
    refine RC.out.mono ?_
    rintro e w1 ⟨rfl, k1⟩
    have P1 := Lib.hid (PC.out w1 k1)
    have K1 := Lib.hid k1
    clear k1
    go_wp2_with fail
    refine P1.out.mono ?_
    rintro e w2 ⟨⟨v, tp, p, rfl⟩, k2⟩
    have K2 := Lib.hid (K1.out.trans k2 (fun _ _ h => h))
    clear k2
    go_wp2
    go_ret3
    exact ⟨rfl, K2.out⟩

end Go.Proofs.YtgelggdgbmldiaaDoor
