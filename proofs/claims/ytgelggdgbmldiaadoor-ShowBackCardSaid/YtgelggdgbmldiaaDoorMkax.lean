/-
  Layer 1: the contracts of the document's digit, letter, Word, Line, number. Written by an AI agent.
  Layer 2: the document's reader: must, name, line, word, calls, down, Type, typed. Written by an AI agent.
-/
import Derived.Test.YtgelggdgbmldiaaDoorMkaw
namespace Go.Proofs.YtgelggdgbmldiaaDoor
open Go.RowKit Go.Shelf
set_option linter.unusedVariables false
set_option linter.unusedSimpArgs false
/-- A function that tells of each byte whether it is of a kind, and leaves the world as it is. -/
def TellsQ (f : Nat) (p : UInt8 → Bool) : Prop := ∀ (w : World) (c : UInt8), Calls Tryd.prog f #[.int .u8 (c.toNat : Int)] w fun e w' => e = .returned (.bool (p c)) ∧ w' = w
set_option maxHeartbeats 1000000 in
theorem rdig : TellsQ 86 dig := fun w c => by
  have hc := u8_lt c
  by_cases h0 : 48 ≤ c.toNat
  · by_cases h1 : c.toNat ≤ 57
    · have hv : dig c = true := by unfold dig; simp only [Bool.and_eq_true, Bool.or_eq_true, decide_eq_true_eq, Bool.not_eq_true', decide_eq_false_iff_not]; omega
      rw [hv]
      clear hv
      generalize c.toNat = n at *
      have e0 : (48 : Int) ≤ (n : Int) := by omega
      have f0 : decide ((48 : Int) ≤ (n : Int)) = true := decide_eq_true e0
      have e1 : (n : Int) ≤ 57 := by omega
      have f1 : decide ((n : Int) ≤ 57) = true := decide_eq_true e1
      go_enter Tryd.func86, Tryd.ntmps86
      go_wp2
      go_ret
      exact ⟨rfl, rfl⟩
    · have hv : dig c = false := Bool.eq_false_iff.2 (fun h => by unfold dig at h; simp only [Bool.and_eq_true, Bool.or_eq_true, decide_eq_true_eq, Bool.not_eq_true', decide_eq_false_iff_not] at h; omega)
      rw [hv]
      clear hv
      generalize c.toNat = n at *
      have e0 : (48 : Int) ≤ (n : Int) := by omega
      have f0 : decide ((48 : Int) ≤ (n : Int)) = true := decide_eq_true e0
      have e1 : ¬ (n : Int) ≤ 57 := by omega
      have f1 : decide ((n : Int) ≤ 57) = false := decide_eq_false e1
      go_enter Tryd.func86, Tryd.ntmps86
      go_wp2
      go_ret
      exact ⟨rfl, rfl⟩
  · have hv : dig c = false := Bool.eq_false_iff.2 (fun h => by unfold dig at h; simp only [Bool.and_eq_true, Bool.or_eq_true, decide_eq_true_eq, Bool.not_eq_true', decide_eq_false_iff_not] at h; omega)
    rw [hv]
    clear hv
    generalize c.toNat = n at *
    have e0 : ¬ (48 : Int) ≤ (n : Int) := by omega
    have f0 : decide ((48 : Int) ≤ (n : Int)) = false := decide_eq_false e0
    go_enter Tryd.func86, Tryd.ntmps86
    go_wp2
    go_ret
    exact ⟨rfl, rfl⟩
set_option maxHeartbeats 1000000 in
theorem rltr : TellsQ 88 ltr := fun w c => by
  have hc := u8_lt c
  by_cases h0 : 97 ≤ c.toNat
  · by_cases h1 : c.toNat ≤ 122
    · have hv : ltr c = true := by unfold ltr; simp only [Bool.and_eq_true, Bool.or_eq_true, decide_eq_true_eq, Bool.not_eq_true', decide_eq_false_iff_not]; omega
      rw [hv]
      clear hv
      generalize c.toNat = n at *
      have e0 : (97 : Int) ≤ (n : Int) := by omega
      have f0 : decide ((97 : Int) ≤ (n : Int)) = true := decide_eq_true e0
      have e1 : (n : Int) ≤ 122 := by omega
      have f1 : decide ((n : Int) ≤ 122) = true := decide_eq_true e1
      go_enter Tryd.func88, Tryd.ntmps88
      go_wp2
      go_ret
      exact ⟨rfl, rfl⟩
    · by_cases h2 : 65 ≤ c.toNat
      · by_cases h3 : c.toNat ≤ 90
        · exfalso; omega
        · have hv : ltr c = false := Bool.eq_false_iff.2 (fun h => by unfold ltr at h; simp only [Bool.and_eq_true, Bool.or_eq_true, decide_eq_true_eq, Bool.not_eq_true', decide_eq_false_iff_not] at h; omega)
          rw [hv]
          clear hv
          generalize c.toNat = n at *
          have e0 : (97 : Int) ≤ (n : Int) := by omega
          have f0 : decide ((97 : Int) ≤ (n : Int)) = true := decide_eq_true e0
          have e1 : ¬ (n : Int) ≤ 122 := by omega
          have f1 : decide ((n : Int) ≤ 122) = false := decide_eq_false e1
          have e2 : (65 : Int) ≤ (n : Int) := by omega
          have f2 : decide ((65 : Int) ≤ (n : Int)) = true := decide_eq_true e2
          have e3 : ¬ (n : Int) ≤ 90 := by omega
          have f3 : decide ((n : Int) ≤ 90) = false := decide_eq_false e3
          go_enter Tryd.func88, Tryd.ntmps88
          go_wp2
          go_ret
          exact ⟨rfl, rfl⟩
      · exfalso; omega
  · by_cases h1 : 65 ≤ c.toNat
    · by_cases h2 : c.toNat ≤ 90
      · have hv : ltr c = true := by unfold ltr; simp only [Bool.and_eq_true, Bool.or_eq_true, decide_eq_true_eq, Bool.not_eq_true', decide_eq_false_iff_not]; omega
        rw [hv]
        clear hv
        generalize c.toNat = n at *
        have e0 : ¬ (97 : Int) ≤ (n : Int) := by omega
        have f0 : decide ((97 : Int) ≤ (n : Int)) = false := decide_eq_false e0
        have e1 : (65 : Int) ≤ (n : Int) := by omega
        have f1 : decide ((65 : Int) ≤ (n : Int)) = true := decide_eq_true e1
        have e2 : (n : Int) ≤ 90 := by omega
        have f2 : decide ((n : Int) ≤ 90) = true := decide_eq_true e2
        go_enter Tryd.func88, Tryd.ntmps88
        go_wp2
        go_ret
        exact ⟨rfl, rfl⟩
      · have hv : ltr c = false := Bool.eq_false_iff.2 (fun h => by unfold ltr at h; simp only [Bool.and_eq_true, Bool.or_eq_true, decide_eq_true_eq, Bool.not_eq_true', decide_eq_false_iff_not] at h; omega)
        rw [hv]
        clear hv
        generalize c.toNat = n at *
        have e0 : ¬ (97 : Int) ≤ (n : Int) := by omega
        have f0 : decide ((97 : Int) ≤ (n : Int)) = false := decide_eq_false e0
        have e1 : (65 : Int) ≤ (n : Int) := by omega
        have f1 : decide ((65 : Int) ≤ (n : Int)) = true := decide_eq_true e1
        have e2 : ¬ (n : Int) ≤ 90 := by omega
        have f2 : decide ((n : Int) ≤ 90) = false := decide_eq_false e2
        go_enter Tryd.func88, Tryd.ntmps88
        go_wp2
        go_ret
        exact ⟨rfl, rfl⟩
    · have hv : ltr c = false := Bool.eq_false_iff.2 (fun h => by unfold ltr at h; simp only [Bool.and_eq_true, Bool.or_eq_true, decide_eq_true_eq, Bool.not_eq_true', decide_eq_false_iff_not] at h; omega)
      rw [hv]
      clear hv
      generalize c.toNat = n at *
      have e0 : ¬ (97 : Int) ≤ (n : Int) := by omega
      have f0 : decide ((97 : Int) ≤ (n : Int)) = false := decide_eq_false e0
      have e1 : ¬ (65 : Int) ≤ (n : Int) := by omega
      have f1 : decide ((65 : Int) ≤ (n : Int)) = false := decide_eq_false e1
      go_enter Tryd.func88, Tryd.ntmps88
      go_wp2
      go_ret
      exact ⟨rfl, rfl⟩
theorem line_when {l : List UInt8} {a : Int} {i : Nat} (h1 : i = 0 ∨ (i : Int) ≤ a) (h2 : i = l.length ∨ a ≤ (i : Int)) : lineL l a = 1 + (l.take i).count 10 := by
  unfold lineL
  by_cases h : a < 0
  · rw [if_pos h]
    obtain rfl : i = 0 := by omega
    simp
  · rw [if_neg h]
    rcases h2 with h2 | h2
    · rcases h1 with h1 | h1
      · have : l = [] := List.length_eq_zero_iff.1 (by omega)
        rw [this]
        simp
      · rw [List.take_of_length_le (i := a.toNat) (by omega), List.take_of_length_le (i := i) (by omega)]
    · rcases h1 with h1 | h1
      · obtain rfl : i = 0 := h1
        rw [show a.toNat = 0 by omega]
      · rw [show a.toNat = i by omega]
theorem count_next {l : List UInt8} {k : Nat} {c : UInt8} (h : l[k]? = some c) : (l.take (k + 1)).count 10 = (l.take k).count 10 + if c.toNat = 10 then 1 else 0 := by
  rw [List.take_add_one, List.count_append, h]
  by_cases h10 : c.toNat = 10
  · obtain rfl : c = 10 := UInt8.toNat_inj.1 h10
    rfl
  · rw [if_neg h10]
    have : c ≠ 10 := fun e => h10 (by rw [e]; rfl)
    simp [this]
set_option maxRecDepth 100000 in
set_option maxHeartbeats 4000000 in
theorem rline_any (s : ByteArray) (hs : s.size ≤ 1000) (a : Int) (w : World) : Calls Tryd.prog 92 #[.string s, .int .i64 a] w fun e w' => e = .returned (.int .i64 (lineL s.data.toList a : Nat)) ∧ w' = w := by
  obtain ⟨l, hl⟩ : ∃ l : List UInt8, l = s.data.toList := ⟨_, rfl⟩
  have hlen : l.length = s.size := by rw [hl, len_size]
  rw [← hl]
  have HL := Lib.hid hl
  have HLN := Lib.hid hlen
  clear hl hlen
  go_enter Tryd.func92, Tryd.ntmps92
  go_wp2_with fail
  go_loopw [5, 6] (fun s5 s6 wr => ∃ (i n : Nat), i ≤ s.size ∧ s5 = .int .i64 n ∧ s6 = .int .i64 i ∧ n = 1 + (l.take i).count 10 ∧ (i = 0 ∨ (i : Int) ≤ a) ∧ wr = w) (fun _ s6 _ => s.size + 1 - (intOf s6).toNat)
  case atStart => exact ⟨0, 1, Nat.zero_le _, rfl, rfl, by simp, .inl rfl, rfl⟩
  case round =>
    obtain ⟨i, n, hi, rfl, rfl, hn, hia, hw⟩ := hrel
    obtain rfl : w = wr := hw.symm
    clear hw
    have hn9 : n ≤ 1001 := by
      have h1 := List.count_le_length (a := (10 : UInt8)) (l := l.take i)
      rw [List.length_take] at h1
      omega
    have HW := Lib.hid (fun h2 => line_when (l := l) hia h2)
    have HN := Lib.hid hn
    clear hn
    by_cases h1 : i < s.size
    · have h1I : (i : Int) < (s.size : Int) := by omega
      have h1d : decide ((i : Int) < (s.size : Int)) = true := decide_eq_true h1I
      by_cases h2 : (i : Int) < a
      · have h2d : decide ((i : Int) < a) = true := decide_eq_true h2
        have hi0 : (0 : Int) ≤ (i : Int) := by omega
        have hc := at_byte s i h1
        rw [← HL.out] at hc
        have hcn := count_next hc
        by_cases h10 : s[i].toNat = 10
        · have q10 : ((s[i].toNat : Int) == 10) = true := by simp; omega
          rw [if_pos h10] at hcn
          have H := Lib.hid (show n + 1 = 1 + (l.take (i + 1)).count 10 by rw [hcn, HN.out]; omega)
          clear hcn hc h10
          go_wp2
          go_roundw
          case rel => exact ⟨i + 1, n + 1, by omega, by go_num, by go_num, H.out, .inr (by omega), by first | rfl | trivial⟩
          case measure => simp [intOf]; omega
        · have q10 : ((s[i].toNat : Int) == 10) = false := by simp; omega
          rw [if_neg h10] at hcn
          have H := Lib.hid (show n = 1 + (l.take (i + 1)).count 10 by rw [hcn, HN.out]; omega)
          clear hcn hc h10
          go_wp2
          go_roundw
          case rel => exact ⟨i + 1, n, by omega, by first | rfl | go_num, by go_num, H.out, .inr (by omega), by first | rfl | trivial⟩
          case measure => simp [intOf]; omega
      · have h2d : decide ((i : Int) < a) = false := decide_eq_false h2
        have hr := HW.out (.inr (by omega))
        rw [← HN.out] at hr
        have HR := Lib.hid hr
        clear hr
        go_wp2
        go_ret
        exact ⟨by rw [HR.out]; rfl, rfl⟩
    · have h1d : decide ((i : Int) < (s.size : Int)) = false := decide_eq_false (by omega)
      have hr := HW.out (.inl (by rw [HLN.out]; omega))
      rw [← HN.out] at hr
      have HR := Lib.hid hr
      clear hr
      go_wp2
      go_ret
      exact ⟨by rw [HR.out]; rfl, rfl⟩
theorem word_get (l : List UInt8) : isWord l = true ↔ ∃ k, k < 16 ∧ wordsL.getD k [] = l := by
  unfold isWord
  rw [List.contains_iff_mem, List.mem_iff_getElem]
  constructor
  · rintro ⟨k, hk, e⟩
    exact ⟨k, hk, by rw [← e]; simp [List.getD, hk]⟩
  · rintro ⟨k, hk, e⟩
    have hk2 : k < wordsL.length := hk
    exact ⟨k, hk2, by rw [← e]; simp [List.getD, hk2]⟩
set_option maxRecDepth 100000 in
set_option maxHeartbeats 4000000 in
theorem rword_any (s : ByteArray) (w : World) : Calls Tryd.prog 89 #[.string s] w fun e w' => e = .returned (.bool (isWord s.data.toList)) ∧ Keeps (fun _ => False) w w' := by
  obtain ⟨l, hl⟩ : ∃ l : List UInt8, l = s.data.toList := ⟨_, rfl⟩
  rw [← hl]
  have HL := Lib.hid hl
  clear hl
  go_enter Tryd.func89, Tryd.ntmps89
  go_wp2_with fail
  generalize hwA : w.alloc _ = wA
  have kA : Keeps (fun _ => False) w wA := by rw [← hwA]; exact (Keeps.refl _ _).alloc _
  have hc : ∀ k, k < 16 → wA.cell? ⟨w.heap.size, k, none⟩ = some (.string (ofL (wordsL.getD k []))) := fun k hk => by
    have h16 : k = 0 ∨ k = 1 ∨ k = 2 ∨ k = 3 ∨ k = 4 ∨ k = 5 ∨ k = 6 ∨ k = 7 ∨ k = 8 ∨ k = 9 ∨ k = 10 ∨ k = 11 ∨ k = 12 ∨ k = 13 ∨ k = 14 ∨ k = 15 := by omega
    rw [← hwA]
    rcases h16 with rfl | rfl | rfl | rfl | rfl | rfl | rfl | rfl | rfl | rfl | rfl | rfl | rfl | rfl | rfl | rfl <;> (simp; rfl)
  obtain ⟨B, hB⟩ : ∃ B, B = w.heap.size := ⟨_, rfl⟩
  rw [← hB] at hc ⊢
  have KA := Lib.hid kA
  have HC := Lib.hid hc
  clear hwA kA hc hB
  go_loopw [4] (fun s4 wr => ∃ (k : Nat), k ≤ 16 ∧ s4 = .int .i64 k ∧ (∀ j, j < k → wordsL.getD j [] ≠ l) ∧ wr = wA) (fun s4 _ => 17 - (intOf s4).toNat)
  case atStart => exact ⟨0, Nat.zero_le _, rfl, fun j h => by omega, rfl⟩
  case round =>
    obtain ⟨k, hk, rfl, hno, hw⟩ := hrel
    obtain rfl : wA = wr := hw.symm
    clear hw
    by_cases h1 : k < 16
    · have h1I : (k : Int) < 16 := by omega
      have h1d : decide ((k : Int) < 16) = true := decide_eq_true h1I
      have hk0 : (0 : Int) ≤ (k : Int) := by omega
      have c0 := HC.out k h1
      obtain ⟨X, hX⟩ : ∃ X : ByteArray, X = ofL (wordsL.getD k []) := ⟨_, rfl⟩
      rw [← hX] at c0
      have hXl : X.data.toList = wordsL.getD k [] := by rw [hX]; exact ofL_list _
      by_cases he : wordsL.getD k [] = l
      · have q : (X.toList == s.toList) = true := by
          rw [toList_data, toList_data, hXl, he, HL.out]
          simp
        have hr : isWord l = true := (word_get l).2 ⟨k, h1, he⟩
        have HR := Lib.hid hr
        clear he hX hXl hno hr
        go_wp2
        go_ret
        exact ⟨by rw [HR.out]; rfl, KA.out⟩
      · have q : (X.toList == s.toList) = false := by
          rw [toList_data, toList_data, hXl, ← HL.out]
          exact beq_eq_false_iff_ne.2 he
        have HN : Hid (∀ j, j < k + 1 → wordsL.getD j [] ≠ l) := fun j hj => by
          rcases Nat.lt_or_ge j k with h3 | h3
          · exact hno j h3
          · obtain rfl : j = k := by omega
            exact he
        clear he hX hXl hno
        go_wp2
        go_roundw
        case rel => exact ⟨k + 1, by omega, by go_num, HN.out, by first | rfl | trivial⟩
        case measure => simp [intOf]; omega
    · obtain rfl : k = 16 := by omega
      have hr : isWord l = false := by
        cases h : isWord l with
        | false => rfl
        | true =>
          obtain ⟨j, h2, h3⟩ := (word_get l).1 h
          exact absurd h3 (hno j h2)
      have HR := Lib.hid hr
      clear hno hr
      go_wp2
      go_ret
      exact ⟨by rw [HR.out]; rfl, KA.out⟩
theorem numA_split (l : List UInt8) : ∀ a, numA a l = a * 10 ^ l.length + numA 0 l := by
  induction l with
  | nil => intro a; show a = a * 10 ^ 0 + 0; simp
  | cons c r ih =>
    intro a
    rw [numA_cons, numA_cons, ih, ih (0 * 10 + (c.toNat - 48)), List.length_cons, Nat.pow_succ, Nat.zero_mul, Nat.zero_add, Nat.add_mul, Nat.mul_assoc, Nat.mul_comm 10]
    omega
theorem numA_lt {l : List UInt8} (h : ∀ c ∈ l, dig c = true) : numA 0 l < 10 ^ l.length := by
  induction l with
  | nil => show 0 < 10 ^ 0; decide
  | cons c r ih =>
    have h1 := ih fun d hd => h d (by simp [hd])
    have h2 := h c (by simp)
    unfold dig at h2
    simp only [Bool.and_eq_true, decide_eq_true_eq] at h2
    rw [numA_cons, numA_split, List.length_cons, Nat.pow_succ, Nat.zero_mul, Nat.zero_add]
    have h3 : (c.toNat - 48) * 10 ^ r.length ≤ 9 * 10 ^ r.length := Nat.mul_le_mul_right _ (by omega)
    omega
theorem digs_less {x : List UInt8} : ∀ {y : List UInt8}, x.length = y.length → (∀ c ∈ x, dig c = true) → (∀ c ∈ y, dig c = true) →
    (Op.bytesLess x y || x == y) = decide (numA 0 x ≤ numA 0 y) := by
  induction x with
  | nil =>
    intro y hl _ _
    have : y = [] := List.length_eq_zero_iff.1 hl.symm
    rw [this]
    rfl
  | cons a x ih =>
    intro y hl hx hy
    cases y with
    | nil => simp at hl
    | cons b y =>
      have hl2 : x.length = y.length := by simpa using hl
      have h1 := ih hl2 (fun d hd => hx d (by simp [hd])) (fun d hd => hy d (by simp [hd]))
      have va := numA_lt (fun d hd => hx d (List.mem_cons_of_mem _ hd))
      have vb := numA_lt (fun d hd => hy d (List.mem_cons_of_mem _ hd))
      have ha := hx a (by simp)
      have hb := hy b (by simp)
      unfold dig at ha hb
      simp only [Bool.and_eq_true, decide_eq_true_eq] at ha hb
      rw [numA_cons, numA_cons, numA_split x, numA_split y, Nat.zero_mul, Nat.zero_add, Nat.zero_add, hl2]
      rw [hl2] at va
      obtain ⟨P, hP⟩ : ∃ P, P = 10 ^ y.length := ⟨_, rfl⟩
      rw [← hP] at va vb ⊢
      show ((decide (a < b) || (a == b && Op.bytesLess x y)) || (a == b && x == y)) = _
      rcases Nat.lt_trichotomy a.toNat b.toNat with h | h | h
      · have e1 : decide (a < b) = true := decide_eq_true (UInt8.lt_iff_toNat_lt.2 h)
        have h3 : (a.toNat - 48 + 1) * P ≤ (b.toNat - 48) * P := Nat.mul_le_mul_right _ (by omega)
        rw [Nat.add_mul, Nat.one_mul] at h3
        rw [e1, decide_eq_true (by omega)]
        rfl
      · obtain rfl : a = b := UInt8.toNat_inj.1 h
        have e1 : decide (a < a) = false := decide_eq_false (fun h => by have := UInt8.lt_iff_toNat_lt.1 h; omega)
        have e2 : (a == a) = true := by simp
        rw [e1, e2, Bool.false_or, Bool.true_and, Bool.true_and, h1]
        rw [Bool.eq_iff_iff]
        simp only [decide_eq_true_eq]
        omega
      · have e1 : decide (a < b) = false := decide_eq_false (fun h2 => by have := UInt8.lt_iff_toNat_lt.1 h2; omega)
        have e2 : (a == b) = false := by
          rw [beq_eq_false_iff_ne]
          intro e
          rw [e] at h
          omega
        have h3 : (b.toNat - 48 + 1) * P ≤ (a.toNat - 48) * P := Nat.mul_le_mul_right _ (by omega)
        rw [Nat.add_mul, Nat.one_mul] at h3
        rw [e1, e2, decide_eq_false (by omega)]
        rfl
set_option maxRecDepth 100000 in
set_option maxHeartbeats 4000000 in
theorem rnumber_any (s : ByteArray) (hd : ∀ c ∈ s.data.toList, dig c = true) (w : World) : Calls Tryd.prog 87 #[.string s] w fun e w' => e = .returned (.bool (decide (numV s.data.toList ≤ 9223372036854775807 ∧ s.size ≤ 19))) ∧ w' = w := by
  have hv : numV s.data.toList = numA 0 s.data.toList := rfl
  have hlt := numA_lt hd
  rw [← hv, len_size] at hlt
  by_cases h1 : s.size < 19
  · have h1d : decide ((s.size : Int) < 19) = true := decide_eq_true (by omega)
    have h3 : 10 ^ s.size ≤ 10 ^ 18 := Nat.pow_le_pow_right (by decide) (by omega)
    have hr : decide (numV s.data.toList ≤ 9223372036854775807 ∧ s.size ≤ 19) = true := decide_eq_true ⟨by omega, by omega⟩
    have HR := Lib.hid hr
    clear hr hlt h3 hv hd
    go_enter Tryd.func87, Tryd.ntmps87
    go_wp2
    go_ret
    exact ⟨by rw [HR.out]; rfl, rfl⟩
  · have h1d : decide ((s.size : Int) < 19) = false := decide_eq_false (by omega)
    by_cases h2 : s.size = 19
    · have h2d : ((s.size : Int) == 19) = true := by simp; omega
      have hc := digs_less (x := s.data.toList) (y := [57, 50, 50, 51, 51, 55, 50, 48, 51, 54, 56, 53, 52, 55, 55, 53, 56, 48, 55]) (by rw [len_size, h2]; rfl) hd (by decide)
      rw [show numA 0 [57, 50, 50, 51, 51, 55, 50, 48, 51, 54, 56, 53, 52, 55, 55, 53, 56, 48, 55] = 9223372036854775807 by decide, ← hv] at hc
      have HC : Hid ((Op.bytesLess s.toList [57, 50, 50, 51, 51, 55, 50, 48, 51, 54, 56, 53, 52, 55, 55, 53, 56, 48, 55] || s.toList == [57, 50, 50, 51, 51, 55, 50, 48, 51, 54, 56, 53, 52, 55, 55, 53, 56, 48, 55]) = decide (numV s.data.toList ≤ 9223372036854775807 ∧ s.size ≤ 19)) := by
        rw [toList_data, hc, Bool.eq_iff_iff]
        simp only [decide_eq_true_eq]
        exact Lib.hid ⟨fun h => ⟨h, by omega⟩, fun h => h.1⟩
      have H2 := Lib.hid h2
      clear hc hlt hv hd h2 h1
      go_enter Tryd.func87, Tryd.ntmps87
      go_wp2
      go_ret
      exact ⟨by rw [← HC.out]; rfl, rfl⟩
    · have h2d : ((s.size : Int) == 19) = false := by simp; omega
      have hr : decide (numV s.data.toList ≤ 9223372036854775807 ∧ s.size ≤ 19) = false := decide_eq_false (fun h => by omega)
      have HR := Lib.hid hr
      clear hr hlt hv hd
      go_enter Tryd.func87, Tryd.ntmps87
      go_wp2
      go_ret
      exact ⟨by rw [HR.out]; rfl, rfl⟩
end Go.Proofs.YtgelggdgbmldiaaDoor

namespace Go.Proofs.YtgelggdgbmldiaaDoor
open Go Go.RowKit Go.Shelf
set_option linter.unusedVariables false
set_option linter.unusedSimpArgs false
/-- One token on. -/
theorem Red.stepAt {P : Nat} {src : ByteArray} {T : List Tok} {R : Nat → Prop} {s : PS} {w : World} (h : Red w P src T R s) (hi : s.i + 1 < T.length) : IntKind.i64.wrap ((s.i : Int) + 1) = (s.i : Int) + 1 ∧ w.cell? ⟨P, 2, none⟩ = some (.int .i64 (s.i : Int)) ∧ w.frozen? ⟨P, 2, none⟩ = false ∧ Red (w.setCell ⟨P, 2, none⟩ (.int .i64 ((s.i : Int) + 1))) P src T R (stepR s) ∧ Fr R w R (w.setCell ⟨P, 2, none⟩ (.int .i64 ((s.i : Int) + 1))) := by
  have hle := h.ok.le
  have h1 := h.setI (s.i + 1) hi
  rw [show ((s.i + 1 : Nat) : Int) = (s.i : Int) + 1 by omega] at h1
  exact ⟨IntWalk.i64_in _ (by omega), h.see.c2, h.see.fz 2, h1.1, h1.2⟩
theorem Red.next {P : Nat} {src : ByteArray} {T : List Tok} {R : Nat → Prop} {s : PS} {w : World} (h : Red w P src T R s) (hk : (tokA T s).k ≠ 0) : s.i + 1 < T.length := by
  have := h.more hk
  omega
theorem kindR_k {T : List Tok} {k : Nat} {s : PS} (h : kindR T k s = true) (hk : k ≠ 0) : (tokA T s).k ≠ 0 := by
  unfold kindR at h
  have := ((Bool.and_eq_true _ _).mp h).2
  have : (tokA T s).k = k := by simpa using this
  omega
theorem isR_k {T : List Tok} {x : List UInt8} {s : PS} (h : isR T x s = true) : (tokA T s).k ≠ 0 := by
  intro h0
  simp [isR, h0] at h
set_option maxRecDepth 100000 in
set_option maxHeartbeats 8000000 in
theorem must_any {P : Nat} {src : ByteArray} {T : List Tok} {R : Nat → Prop} {s : PS} {w : World} (h : Red w P src T R s) (x : ByteArray) : Calls Tryd.prog 59 #[.pointer (some ⟨P, 0, none⟩), .string x] w (PostR P src T R w (.tuple #[]) (mustR T x.data.toList s)) := by
  have H := Lib.hid h
  have IC := Lib.hid (ris_any h x)
  by_cases hb : isR T x.data.toList s = true
  · have hE : mustR T x.data.toList s = stepR s := by unfold mustR; rw [if_pos hb]
    have hi := h.next (isR_k hb)
    rw [hE]
    rw [hb] at IC
    clear hE hb h
    go_enter Tryd.func59, Tryd.ntmps59
    go_wp2_with fail
    refine IC.out.mono ?_
    rintro e w1 ⟨rfl, k1⟩
    obtain ⟨e1, c2, f2, hp, hf⟩ := (H.out.keep k1).stepAt hi
    have HF : Hid (PostR P src T R w (.tuple #[]) (stepR s) (.returned (.tuple #[])) (w1.setCell ⟨P, 2, none⟩ (.int .i64 ((s.i : Int) + 1)))) := Lib.hid ⟨rfl, R, hp, ((Fr.refl R w).keeps k1).trans hf⟩
    generalize (s.i : Int) = i at *
    clear hp hf IC
    go_wp2_with fail
    exact bodyPost_end (v := .tuple #[]) (by simp [results, Tryd.results59, go_sem]) rfl HF.out
  · have hE : mustR T x.data.toList s = failR T 20 s := by unfold mustR; rw [if_neg hb]
    have hb : isR T x.data.toList s = false := by simpa using hb
    rw [hE]
    rw [hb] at IC
    clear hE hb h
    go_enter Tryd.func59, Tryd.ntmps59
    go_wp2_with fail
    refine IC.out.mono ?_
    rintro e w1 ⟨rfl, k1⟩
    have NX := Lib.hid (fails_any (H.out.keep k1) 20)
    clear IC
    go_wp2_with fail
    refine NX.out.mono ?_
    rintro e w2 ⟨rfl, R', hp, hf⟩
    have HF : Hid (PostR P src T R w (.tuple #[]) (failR T 20 s) (.returned (.tuple #[])) w2) := Lib.hid ⟨rfl, R', hp, ((Fr.refl R w).keeps k1).trans hf⟩
    clear hp hf NX
    go_wp2_with fail
    exact bodyPost_end (v := .tuple #[]) (by simp [results, Tryd.results59, go_sem]) rfl HF.out
set_option maxRecDepth 100000 in
set_option maxHeartbeats 8000000 in
theorem rname_any {P : Nat} {src : ByteArray} {T : List Tok} {R : Nat → Prop} {s : PS} {w : World} (h : Red w P src T R s) : Calls Tryd.prog 60 #[.pointer (some ⟨P, 0, none⟩)] w (PostR P src T R w (.string (ofL (wnameX T s))) (wnameR T s)) := by
  have H := Lib.hid h
  have IC := Lib.hid (rkind_any h 3)
  by_cases hb : kindR T 3 s = true
  · have hE : wnameR T s = stepR s := by unfold wnameR; rw [if_pos hb]
    have hX : wnameX T s = (T.getD s.i default).x := by unfold wnameX; rw [if_pos hb]; rfl
    have hi := h.next (kindR_k hb (by decide))
    obtain ⟨tx, htx⟩ : ∃ tx, tx = ofL (T.getD s.i default).x := ⟨_, rfl⟩
    rw [hE, hX, ← htx]
    rw [hb] at IC
    clear hE hb h hX
    go_enter Tryd.func60, Tryd.ntmps60
    go_wp2_with fail
    refine IC.out.mono ?_
    rintro e w1 ⟨rfl, k1⟩
    obtain ⟨e1, c2, f2, hp, hf⟩ := (H.out.keep k1).stepAt hi
    have HF : Hid (∀ w3, Keeps (fun _ => False) (w1.setCell ⟨P, 2, none⟩ (.int .i64 ((s.i : Int) + 1))) w3 → PostR P src T R w (.string tx) (stepR s) (.returned (.string tx)) w3) := Lib.hid fun w3 k3 => ⟨rfl, R, hp.keep k3, (((Fr.refl R w).keeps k1).trans hf).keeps k3⟩
    have HT : Hid (∀ w3, Keeps (fun _ => False) (w1.setCell ⟨P, 2, none⟩ (.int .i64 ((s.i : Int) + 1))) w3 → w3.cell? ⟨P, 2, none⟩ = some (.int .i64 ((s.i : Int) + 1)) ∧ ∃ b off cT, b ≠ P ∧ w3.cell? ⟨P, 1, none⟩ = some (.slice (some ⟨b, off, none⟩) T.length cT) ∧ w3.cell? ⟨b, off + s.i * 3 + 1, none⟩ = some (.string tx)) := Lib.hid fun w3 k3 => by
      have h3 := hp.keep k3
      obtain ⟨b, off, cT, hb, c1, t0, t1, t2⟩ := h3.tokAt s.i (by omega)
      have c2 := h3.see.c2
      rw [show (((stepR s).i : Nat) : Int) = (s.i : Int) + 1 by show ((s.i + 1 : Nat) : Int) = _; omega] at c2
      exact ⟨c2, b, off, cT, hb, c1, by rw [htx]; exact t1⟩
    have hle := H.out.ok.le
    have w0 : IntKind.i64.wrap ((s.i : Int) + 1 - 1) = (s.i : Int) := by rw [show (s.i : Int) + 1 - 1 = (s.i : Int) by omega]; exact IntWalk.i64_in _ (by omega)
    obtain ⟨i, hI⟩ : ∃ i, i = s.i := ⟨_, rfl⟩
    obtain ⟨n, hn⟩ : ∃ n, n = T.length := ⟨_, rfl⟩
    rw [← hI] at e1 c2 HF HT w0 hi
    rw [← hn] at HT hi
    have h0 : (0 : Int) ≤ (i : Int) := by omega
    have h1 : (i : Int) < (n : Int) := by omega
    clear hp hf IC H hI hn hle k1 htx
    go_upto_region 6 with fail
    generalize w1.setCell ⟨P, 2, none⟩ (.int .i64 ((i : Int) + 1)) = w2 at *
    clear c2 f2
    obtain ⟨c2, b, off, cT, hb, c1, t1⟩ := HT.out w2 (Keeps.refl _ _)
    clear e1
    simp only [show (i : Int) + 1 - 1 = (i : Int) by omega] at w0
    go_quiet (fail)
    have kd := drew_keeps w2 nq
    generalize w2.drewN nq = w3 at *
    clear c1 c2 t1
    go_wp2_with fail
    go_ret
    exact HF.out w3 kd
  · have hE : wnameR T s = failR T 20 s := by unfold wnameR; rw [if_neg hb]
    have hX : wnameX T s = [] := by unfold wnameX; rw [if_neg hb]
    have hb : kindR T 3 s = false := by simpa using hb
    rw [hE, hX]
    rw [hb] at IC
    clear hE hb h hX
    go_enter Tryd.func60, Tryd.ntmps60
    go_wp2_with fail
    refine IC.out.mono ?_
    rintro e w1 ⟨rfl, k1⟩
    have NX := Lib.hid (fails_any (H.out.keep k1) 20)
    clear IC
    go_wp2_with fail
    refine NX.out.mono ?_
    rintro e w2 ⟨rfl, R', hp, hf⟩
    have HF : Hid (PostR P src T R w (.string (ofL [])) (failR T 20 s) (.returned (.string (ofL []))) w2) := Lib.hid ⟨rfl, R', hp, ((Fr.refl R w).keeps k1).trans hf⟩
    clear hp hf NX
    go_wp2_with fail
    go_ret
    exact HF.out
set_option maxRecDepth 100000 in
set_option maxHeartbeats 8000000 in
theorem rline_at {P : Nat} {src : ByteArray} {T : List Tok} {R : Nat → Prop} {s : PS} {w : World} (hsz : src.size ≤ 1000) (h : Red w P src T R s) : Calls Tryd.prog 58 #[.pointer (some ⟨P, 0, none⟩)] w fun e w' => e = .returned (.int .i64 (lineS src.data.toList T s)) ∧ Keeps (fun _ => False) w w' := by
  have H := Lib.hid h
  obtain ⟨b, off, cT, hbP, c1, hc⟩ := h.toks
  have sw := h.see
  have hi := h.hi
  have hle := h.ok.le
  obtain ⟨t0, t1, t2⟩ := hc s.i hi
  have hb := cell_ltk t0
  have hP := h.lo
  have c2 := sw.c2
  have c0 := sw.c0
  obtain ⟨i, hI⟩ : ∃ i, i = s.i := ⟨_, rfl⟩
  obtain ⟨n, hn⟩ : ∃ n, n = T.length := ⟨_, rfl⟩
  have LC : Hid (∀ w1, Calls Tryd.prog 92 #[.string src, .int .i64 (((T.getD s.i default).p : Nat) : Int)] w1 fun e w' => e = .returned (.int .i64 (lineS src.data.toList T s)) ∧ w' = w1) := Lib.hid fun w1 => rline_any src hsz _ w1
  generalize lineS src.data.toList T s = ln at LC ⊢
  rw [← hI] at c2 hi t0 t1 t2 LC
  rw [← hn] at c1 hi hle
  generalize (((T.getD i default).p : Nat) : Int) = tp at t2 LC
  have h0 : (0 : Int) ≤ (i : Int) := by omega
  have h1 : (i : Int) < (n : Int) := by omega
  clear hI hn hc H h sw t0 t1
  go_enter Tryd.func58, Tryd.ntmps58
  go_wp2_with fail
  go_quiet ((go_at_call 92; exact Calls.quiet_of_same (LC.out _)))
  have kd := drew_keeps w nq
  generalize w.drewN nq = w1 at *
  clear c1 c2 c0 t2
  go_wp2_with fail
  go_ret
  exact ⟨rfl, kd⟩
set_option maxRecDepth 100000 in
set_option maxHeartbeats 8000000 in
theorem rwd_any {P : Nat} {src : ByteArray} {T : List Tok} {R : Nat → Prop} {s : PS} {w : World} (h : Red w P src T R s) : Calls Tryd.prog 94 #[.pointer (some ⟨P, 0, none⟩)] w fun e w' => e = .returned (.string (ofL (wordR T s))) ∧ Keeps (fun _ => False) w w' := by
  have IC := Lib.hid (rkind_any h 4)
  by_cases hkk : kindR T 4 s = true
  · have H := Lib.hid h
    obtain ⟨b, off, cT, hbP, c1, hc⟩ := h.toks
    have sw := h.see
    have hi := h.hi
    have hle := h.ok.le
    obtain ⟨t0, t1, t2⟩ := hc s.i hi
    have hb := cell_ltk t0
    have hP := h.lo
    have c2 := sw.c2
    have hX : wordR T s = (T.getD s.i default).x := by unfold wordR; rw [if_pos hkk]; rfl
    rw [hX]
    rw [hkk] at IC
    clear hX hkk
    obtain ⟨i, hI⟩ : ∃ i, i = s.i := ⟨_, rfl⟩
    obtain ⟨n, hn⟩ : ∃ n, n = T.length := ⟨_, rfl⟩
    rw [← hI] at c2 hi t0 t1 t2 ⊢
    rw [← hn] at c1 hi hle
    generalize ofL (T.getD i default).x = tx at t1 ⊢
    have h0 : (0 : Int) ≤ (i : Int) := by omega
    have h1 : (i : Int) < (n : Int) := by omega
    clear hI hn hc H h sw t0 t2
    go_enter Tryd.func94, Tryd.ntmps94
    go_wp2_with fail
    refine IC.out.mono ?_
    rintro e w1 ⟨rfl, k1⟩
    have c1 := (k1.cell hP (fun h => h)).trans c1
    have c2 := (k1.cell hP (fun h => h)).trans c2
    have t1 := (k1.cell hb (fun h => h)).trans t1
    have K1 := Lib.hid k1
    clear IC k1 hP hb
    go_upto_region 3 with fail
    go_quiet (fail)
    have kd := K1.out.trans (drew_keeps w1 nq) (fun _ _ h => h)
    generalize w1.drewN nq = w2 at *
    clear c1 c2 t1
    go_wp2_with fail
    go_ret
    exact ⟨rfl, kd⟩
  · have hX : wordR T s = [] := by unfold wordR; rw [if_neg hkk]
    have hb : kindR T 4 s = false := by simpa using hkk
    rw [hX]
    rw [hb] at IC
    clear hX hb h hkk
    go_enter Tryd.func94, Tryd.ntmps94
    go_wp2_with fail
    refine IC.out.mono ?_
    rintro e w1 ⟨rfl, k1⟩
    clear IC
    go_wp2_with fail
    go_ret
    exact ⟨rfl, k1⟩
set_option maxRecDepth 100000 in
set_option maxHeartbeats 8000000 in
theorem rcalls_any {P : Nat} {src : ByteArray} {T : List Tok} {R : Nat → Prop} {s : PS} {w : World} (h : Red w P src T R s) : Calls Tryd.prog 132 #[.pointer (some ⟨P, 0, none⟩)] w fun e w' => e = .returned (.bool (callsR T s)) ∧ Keeps (fun _ => False) w w' := by
  have IC := Lib.hid (rkind_any h 3)
  by_cases hb : kindR T 3 s = true
  · have H := Lib.hid h
    have hi := h.next (kindR_k hb (by decide))
    obtain ⟨b, off, cT, hbP, c1, t0, t1, t2⟩ := h.tokAt (s.i + 1) hi
    have c2 := h.see.c2
    have hbl := cell_ltk t0
    have hP := h.lo
    have hle := h.ok.le
    have hX : callsR T s = (decide (((T.getD (s.i + 1) default).k : Int) = 5) && decide (ofL (T.getD (s.i + 1) default).x = { data := #[40] })) := by
      unfold callsR
      rw [hb, Bool.true_and, list_beq, ofL_list]
      congr 1
      exact decide_eq_decide.2 (by omega)
    rw [hX]
    rw [hb] at IC
    have w1' : IntKind.i64.wrap ((s.i : Int) + 1) = ((s.i + 1 : Nat) : Int) := by rw [show ((s.i + 1 : Nat) : Int) = (s.i : Int) + 1 by omega]; exact IntWalk.i64_in _ (by omega)
    have h0 : (0 : Int) ≤ ((s.i + 1 : Nat) : Int) := by omega
    have h1 : ((s.i + 1 : Nat) : Int) < (T.length : Int) := by omega
    generalize hj : s.i + 1 = j at *
    generalize (s.i : Int) = i at *
    generalize ofL (T.getD j default).x = tx at t1 ⊢
    generalize ((T.getD j default).k : Int) = tk at t0 ⊢
    generalize T.length = n at *
    have hq : (tx.toList == [40]) = decide (tx = { data := #[40] }) := by rw [word_beq, list_beq]
    clear hX hb t2 H h hj hle
    have walk : ∀ r : Bool, ((tk = 5 ∧ r = (tx.toList == [40])) ∨ (tk ≠ 5 ∧ r = false)) → Calls Tryd.prog 132 #[.pointer (some ⟨P, 0, none⟩)] w fun e w' => e = .returned (.bool r) ∧ Keeps (fun _ => False) w w' := by
      intro r hr
      have HRR := Lib.hid hr
      clear hr hq
      go_enter Tryd.func132, Tryd.ntmps132
      go_wp2_with fail
      refine IC.out.mono ?_
      rintro e w1 ⟨rfl, k1⟩
      have c1 := (k1.cell hP (fun h => h)).trans c1
      have c2 := (k1.cell hP (fun h => h)).trans c2
      have t0 := (k1.cell hbl (fun h => h)).trans t0
      have t1 := (k1.cell (cell_ltk t1) (fun h => h)).trans t1
      have K1 := Lib.hid k1
      clear IC k1 hP hbl
      rcases HRR.out with ⟨rfl, rfl⟩ | ⟨h5, rfl⟩
      · go_upto_region 2 with fail
        go_quiet (fail)
        have kd := K1.out.trans (drew_keeps w1 nq) (fun _ _ h => h)
        generalize w1.drewN nq = w2 at *
        clear c1 c2 t0 t1
        go_wp2_with fail
        go_ret
        exact ⟨rfl, kd⟩
      · have d5 := (show (tk == 5) = false by simpa using h5)
        go_upto_region 2 with fail
        go_quiet (fail)
        have kd := K1.out.trans (drew_keeps w1 nq) (fun _ _ h => h)
        generalize w1.drewN nq = w2 at *
        clear c1 c2 t0 t1
        go_wp2_with fail
        go_ret
        exact ⟨rfl, kd⟩
    by_cases h5 : tk = 5
    · rw [decide_eq_true h5, Bool.true_and]
      exact walk _ (.inl ⟨h5, hq.symm⟩)
    · rw [decide_eq_false h5, Bool.false_and]
      exact walk _ (.inr ⟨h5, rfl⟩)
  · have hX : callsR T s = false := by
      have hb : kindR T 3 s = false := by simpa using hb
      unfold callsR; rw [hb, Bool.false_and]
    have hb : kindR T 3 s = false := by simpa using hb
    rw [hX]
    rw [hb] at IC
    clear hX hb h
    go_enter Tryd.func132, Tryd.ntmps132
    go_wp2_with fail
    refine IC.out.mono ?_
    rintro e w1 ⟨rfl, k1⟩
    clear IC
    go_upto_region 2 with fail
    go_quiet (fail)
    have kd := k1.trans (drew_keeps w1 nq) (fun _ _ h => h)
    generalize w1.drewN nq = w2 at *
    clear k1
    go_wp2_with fail
    go_ret
    exact ⟨rfl, kd⟩
end Go.Proofs.YtgelggdgbmldiaaDoor
