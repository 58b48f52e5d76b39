/-
  Layer 1: the contracts of the document's digit, letter, Word, Line, number. Written by an AI agent.
-/
import Derived.Lib.Bytealg
import Derived.Test.YtgelggdgbmldiaaDoorChecked
import Derived.Laws.OwnMore
import Derived.Laws.AppendOwnNone
import Derived.OwnWalk
import Derived.Lib.AppendZerosOnto
import Derived.Below
import Derived.Stop.Walk2
import Derived.WalkKit
import Derived.WalkLawsBesides
import Derived.WalkSpells
import Derived.Outline
import Derived.BigQuiet
import Derived.Deep.CutBlock
import Derived.Deep.CutRange
import Derived.Deep.DeepCutAuto
import Derived.Deep.RegionHeld3
import Derived.Deep.RegionLaw
import Derived.Deep.RegionWith
import Derived.StillTailTactics
import Derived.RegionTactic
import Derived.Laws.StructEq
import Derived.Lib.Hide
import Derived.Shelf.Abstract
import Derived.Shelf.Lay
import Derived.Ground.NamesProg
import Derived.Shelf.Strings.Prefix
import Derived.Shelf.Small.Strs
import Derived.Shelf.Strings.Count
import Derived.Shelf.Strconv.ErrVarParseInt
import Derived.WalkMore
import Derived.Scope
import Derived.Test.YtgelggdgbmldiaaDoorMcaa
import Derived.Test.YtgelggdgbmldiaaDoorMcac
import Derived.Test.YtgelggdgbmldiaaDoorMcad
import Derived.Test.YtgelggdgbmldiaaDoorMcag
namespace Go.Proofs.YtgelggdgbmldiaaDoor
open Go.RowKit Go.Shelf
set_option linter.unusedVariables false
set_option linter.unusedSimpArgs false
/-- A function that tells of each byte whether it is of a kind, and leaves the world as it is. -/
def TellsQ (f : Nat) (p : UInt8 → Bool) : Prop := ∀ (w : World) (c : UInt8), Calls Tryd.prog f #[.int .u8 (c.toNat : Int)] w fun e w' => e = .returned (.bool (p c)) ∧ w' = w
set_option maxHeartbeats 1000000 in
theorem rdig : TellsQ 86 dig := fun w c => by
  have hc := u8_lt c
  by_cases h0 : 48 ≤ c.toNat
  · by_cases h1 : c.toNat ≤ 57
    · have hv : dig c = true := by unfold dig; simp only [Bool.and_eq_true, Bool.or_eq_true, decide_eq_true_eq, Bool.not_eq_true', decide_eq_false_iff_not]; omega
      rw [hv]
      clear hv
      generalize c.toNat = n at *
      have e0 : (48 : Int) ≤ (n : Int) := by omega
      have f0 : decide ((48 : Int) ≤ (n : Int)) = true := decide_eq_true e0
      have e1 : (n : Int) ≤ 57 := by omega
      have f1 : decide ((n : Int) ≤ 57) = true := decide_eq_true e1
      go_enter Tryd.func86, Tryd.ntmps86
      go_wp2
      go_ret
      exact ⟨rfl, rfl⟩
    · have hv : dig c = false := Bool.eq_false_iff.2 (fun h => by unfold dig at h; simp only [Bool.and_eq_true, Bool.or_eq_true, decide_eq_true_eq, Bool.not_eq_true', decide_eq_false_iff_not] at h; omega)
      rw [hv]
      clear hv
      generalize c.toNat = n at *
      have e0 : (48 : Int) ≤ (n : Int) := by omega
      have f0 : decide ((48 : Int) ≤ (n : Int)) = true := decide_eq_true e0
      have e1 : ¬ (n : Int) ≤ 57 := by omega
      have f1 : decide ((n : Int) ≤ 57) = false := decide_eq_false e1
      go_enter Tryd.func86, Tryd.ntmps86
      go_wp2
      go_ret
      exact ⟨rfl, rfl⟩
  · have hv : dig c = false := Bool.eq_false_iff.2 (fun h => by unfold dig at h; simp only [Bool.and_eq_true, Bool.or_eq_true, decide_eq_true_eq, Bool.not_eq_true', decide_eq_false_iff_not] at h; omega)
    rw [hv]
    clear hv
    generalize c.toNat = n at *
    have e0 : ¬ (48 : Int) ≤ (n : Int) := by omega
    have f0 : decide ((48 : Int) ≤ (n : Int)) = false := decide_eq_false e0
    go_enter Tryd.func86, Tryd.ntmps86
    go_wp2
    go_ret
    exact ⟨rfl, rfl⟩
set_option maxHeartbeats 1000000 in
theorem rltr : TellsQ 88 ltr := fun w c => by
  have hc := u8_lt c
  by_cases h0 : 97 ≤ c.toNat
  · by_cases h1 : c.toNat ≤ 122
    · have hv : ltr c = true := by unfold ltr; simp only [Bool.and_eq_true, Bool.or_eq_true, decide_eq_true_eq, Bool.not_eq_true', decide_eq_false_iff_not]; omega
      rw [hv]
      clear hv
      generalize c.toNat = n at *
      have e0 : (97 : Int) ≤ (n : Int) := by omega
      have f0 : decide ((97 : Int) ≤ (n : Int)) = true := decide_eq_true e0
      have e1 : (n : Int) ≤ 122 := by omega
      have f1 : decide ((n : Int) ≤ 122) = true := decide_eq_true e1
      go_enter Tryd.func88, Tryd.ntmps88
      go_wp2
      go_ret
      exact ⟨rfl, rfl⟩
    · by_cases h2 : 65 ≤ c.toNat
      · by_cases h3 : c.toNat ≤ 90
        · exfalso; omega
        · have hv : ltr c = false := Bool.eq_false_iff.2 (fun h => by unfold ltr at h; simp only [Bool.and_eq_true, Bool.or_eq_true, decide_eq_true_eq, Bool.not_eq_true', decide_eq_false_iff_not] at h; omega)
          rw [hv]
          clear hv
          generalize c.toNat = n at *
          have e0 : (97 : Int) ≤ (n : Int) := by omega
          have f0 : decide ((97 : Int) ≤ (n : Int)) = true := decide_eq_true e0
          have e1 : ¬ (n : Int) ≤ 122 := by omega
          have f1 : decide ((n : Int) ≤ 122) = false := decide_eq_false e1
          have e2 : (65 : Int) ≤ (n : Int) := by omega
          have f2 : decide ((65 : Int) ≤ (n : Int)) = true := decide_eq_true e2
          have e3 : ¬ (n : Int) ≤ 90 := by omega
          have f3 : decide ((n : Int) ≤ 90) = false := decide_eq_false e3
          go_enter Tryd.func88, Tryd.ntmps88
          go_wp2
          go_ret
          exact ⟨rfl, rfl⟩
      · exfalso; omega
  · by_cases h1 : 65 ≤ c.toNat
    · by_cases h2 : c.toNat ≤ 90
      · have hv : ltr c = true := by unfold ltr; simp only [Bool.and_eq_true, Bool.or_eq_true, decide_eq_true_eq, Bool.not_eq_true', decide_eq_false_iff_not]; omega
        rw [hv]
        clear hv
        generalize c.toNat = n at *
        have e0 : ¬ (97 : Int) ≤ (n : Int) := by omega
        have f0 : decide ((97 : Int) ≤ (n : Int)) = false := decide_eq_false e0
        have e1 : (65 : Int) ≤ (n : Int) := by omega
        have f1 : decide ((65 : Int) ≤ (n : Int)) = true := decide_eq_true e1
        have e2 : (n : Int) ≤ 90 := by omega
        have f2 : decide ((n : Int) ≤ 90) = true := decide_eq_true e2
        go_enter Tryd.func88, Tryd.ntmps88
        go_wp2
        go_ret
        exact ⟨rfl, rfl⟩
      · have hv : ltr c = false := Bool.eq_false_iff.2 (fun h => by unfold ltr at h; simp only [Bool.and_eq_true, Bool.or_eq_true, decide_eq_true_eq, Bool.not_eq_true', decide_eq_false_iff_not] at h; omega)
        rw [hv]
        clear hv
        generalize c.toNat = n at *
        have e0 : ¬ (97 : Int) ≤ (n : Int) := by omega
        have f0 : decide ((97 : Int) ≤ (n : Int)) = false := decide_eq_false e0
        have e1 : (65 : Int) ≤ (n : Int) := by omega
        have f1 : decide ((65 : Int) ≤ (n : Int)) = true := decide_eq_true e1
        have e2 : ¬ (n : Int) ≤ 90 := by omega
        have f2 : decide ((n : Int) ≤ 90) = false := decide_eq_false e2
        go_enter Tryd.func88, Tryd.ntmps88
        go_wp2
        go_ret
        exact ⟨rfl, rfl⟩
    · have hv : ltr c = false := Bool.eq_false_iff.2 (fun h => by unfold ltr at h; simp only [Bool.and_eq_true, Bool.or_eq_true, decide_eq_true_eq, Bool.not_eq_true', decide_eq_false_iff_not] at h; omega)
      rw [hv]
      clear hv
      generalize c.toNat = n at *
      have e0 : ¬ (97 : Int) ≤ (n : Int) := by omega
      have f0 : decide ((97 : Int) ≤ (n : Int)) = false := decide_eq_false e0
      have e1 : ¬ (65 : Int) ≤ (n : Int) := by omega
      have f1 : decide ((65 : Int) ≤ (n : Int)) = false := decide_eq_false e1
      go_enter Tryd.func88, Tryd.ntmps88
      go_wp2
      go_ret
      exact ⟨rfl, rfl⟩
theorem line_when {l : List UInt8} {a : Int} {i : Nat} (h1 : i = 0 ∨ (i : Int) ≤ a) (h2 : i = l.length ∨ a ≤ (i : Int)) : lineL l a = 1 + (l.take i).count 10 := by
  unfold lineL
  by_cases h : a < 0
  · rw [if_pos h]
    obtain rfl : i = 0 := by omega
    simp
  · rw [if_neg h]
    rcases h2 with h2 | h2
    · rcases h1 with h1 | h1
      · have : l = [] := List.length_eq_zero_iff.1 (by omega)
        rw [this]
        simp
      · rw [List.take_of_length_le (i := a.toNat) (by omega), List.take_of_length_le (i := i) (by omega)]
    · rcases h1 with h1 | h1
      · obtain rfl : i = 0 := h1
        rw [show a.toNat = 0 by omega]
      · rw [show a.toNat = i by omega]
theorem count_next {l : List UInt8} {k : Nat} {c : UInt8} (h : l[k]? = some c) : (l.take (k + 1)).count 10 = (l.take k).count 10 + if c.toNat = 10 then 1 else 0 := by
  rw [List.take_add_one, List.count_append, h]
  by_cases h10 : c.toNat = 10
  · obtain rfl : c = 10 := UInt8.toNat_inj.1 h10
    rfl
  · rw [if_neg h10]
    have : c ≠ 10 := fun e => h10 (by rw [e]; rfl)
    simp [this]
set_option maxRecDepth 100000 in
set_option maxHeartbeats 4000000 in
theorem rline_any (s : ByteArray) (hs : s.size ≤ 1000) (a : Int) (w : World) : Calls Tryd.prog 92 #[.string s, .int .i64 a] w fun e w' => e = .returned (.int .i64 (lineL s.data.toList a : Nat)) ∧ w' = w := by
  obtain ⟨l, hl⟩ : ∃ l : List UInt8, l = s.data.toList := ⟨_, rfl⟩
  have hlen : l.length = s.size := by rw [hl, len_size]
  rw [← hl]
  have HL := Lib.hid hl
  have HLN := Lib.hid hlen
  clear hl hlen
  go_enter Tryd.func92, Tryd.ntmps92
  go_wp2_with fail
  go_loopw [5, 6] (fun s5 s6 wr => ∃ (i n : Nat), i ≤ s.size ∧ s5 = .int .i64 n ∧ s6 = .int .i64 i ∧ n = 1 + (l.take i).count 10 ∧ (i = 0 ∨ (i : Int) ≤ a) ∧ wr = w) (fun _ s6 _ => s.size + 1 - (intOf s6).toNat)
  case atStart => exact ⟨0, 1, Nat.zero_le _, rfl, rfl, by simp, .inl rfl, rfl⟩
  case round =>
    obtain ⟨i, n, hi, rfl, rfl, hn, hia, hw⟩ := hrel
    obtain rfl : w = wr := hw.symm
    clear hw
    have hn9 : n ≤ 1001 := by
      have h1 := List.count_le_length (a := (10 : UInt8)) (l := l.take i)
      rw [List.length_take] at h1
      omega
    have HW := Lib.hid (fun h2 => line_when (l := l) hia h2)
    have HN := Lib.hid hn
    clear hn
    by_cases h1 : i < s.size
    · have h1I : (i : Int) < (s.size : Int) := by omega
      have h1d : decide ((i : Int) < (s.size : Int)) = true := decide_eq_true h1I
      by_cases h2 : (i : Int) < a
      · have h2d : decide ((i : Int) < a) = true := decide_eq_true h2
        have hi0 : (0 : Int) ≤ (i : Int) := by omega
        have hc := at_byte s i h1
        rw [← HL.out] at hc
        have hcn := count_next hc
        by_cases h10 : s[i].toNat = 10
        · have q10 : ((s[i].toNat : Int) == 10) = true := by simp; omega
          rw [if_pos h10] at hcn
          have H := Lib.hid (show n + 1 = 1 + (l.take (i + 1)).count 10 by rw [hcn, HN.out]; omega)
          clear hcn hc h10
          go_wp2
          go_roundw
          case rel => exact ⟨i + 1, n + 1, by omega, by go_num, by go_num, H.out, .inr (by omega), by first | rfl | trivial⟩
          case measure => simp [intOf]; omega
        · have q10 : ((s[i].toNat : Int) == 10) = false := by simp; omega
          rw [if_neg h10] at hcn
          have H := Lib.hid (show n = 1 + (l.take (i + 1)).count 10 by rw [hcn, HN.out]; omega)
          clear hcn hc h10
          go_wp2
          go_roundw
          case rel => exact ⟨i + 1, n, by omega, by first | rfl | go_num, by go_num, H.out, .inr (by omega), by first | rfl | trivial⟩
          case measure => simp [intOf]; omega
      · have h2d : decide ((i : Int) < a) = false := decide_eq_false h2
        have hr := HW.out (.inr (by omega))
        rw [← HN.out] at hr
        have HR := Lib.hid hr
        clear hr
        go_wp2
        go_ret
        exact ⟨by rw [HR.out]; rfl, rfl⟩
    · have h1d : decide ((i : Int) < (s.size : Int)) = false := decide_eq_false (by omega)
      have hr := HW.out (.inl (by rw [HLN.out]; omega))
      rw [← HN.out] at hr
      have HR := Lib.hid hr
      clear hr
      go_wp2
      go_ret
      exact ⟨by rw [HR.out]; rfl, rfl⟩
theorem word_get (l : List UInt8) : isWord l = true ↔ ∃ k, k < 16 ∧ wordsL.getD k [] = l := by
  unfold isWord
  rw [List.contains_iff_mem, List.mem_iff_getElem]
  constructor
  · rintro ⟨k, hk, e⟩
    exact ⟨k, hk, by rw [← e]; simp [List.getD, hk]⟩
  · rintro ⟨k, hk, e⟩
    have hk2 : k < wordsL.length := hk
    exact ⟨k, hk2, by rw [← e]; simp [List.getD, hk2]⟩
set_option maxRecDepth 100000 in
set_option maxHeartbeats 4000000 in
theorem rword_any (s : ByteArray) (w : World) : Calls Tryd.prog 89 #[.string s] w fun e w' => e = .returned (.bool (isWord s.data.toList)) ∧ Keeps (fun _ => False) w w' := by
  obtain ⟨l, hl⟩ : ∃ l : List UInt8, l = s.data.toList := ⟨_, rfl⟩
  rw [← hl]
  have HL := Lib.hid hl
  clear hl
  go_enter Tryd.func89, Tryd.ntmps89
  go_wp2_with fail
  generalize hwA : w.alloc _ = wA
  have kA : Keeps (fun _ => False) w wA := by rw [← hwA]; exact (Keeps.refl _ _).alloc _
  have hc : ∀ k, k < 16 → wA.cell? ⟨w.heap.size, k, none⟩ = some (.string (ofL (wordsL.getD k []))) := fun k hk => by
    have h16 : k = 0 ∨ k = 1 ∨ k = 2 ∨ k = 3 ∨ k = 4 ∨ k = 5 ∨ k = 6 ∨ k = 7 ∨ k = 8 ∨ k = 9 ∨ k = 10 ∨ k = 11 ∨ k = 12 ∨ k = 13 ∨ k = 14 ∨ k = 15 := by omega
    rw [← hwA]
    rcases h16 with rfl | rfl | rfl | rfl | rfl | rfl | rfl | rfl | rfl | rfl | rfl | rfl | rfl | rfl | rfl | rfl <;> (simp; rfl)
  obtain ⟨B, hB⟩ : ∃ B, B = w.heap.size := ⟨_, rfl⟩
  rw [← hB] at hc ⊢
  have KA := Lib.hid kA
  have HC := Lib.hid hc
  clear hwA kA hc hB
  go_loopw [4] (fun s4 wr => ∃ (k : Nat), k ≤ 16 ∧ s4 = .int .i64 k ∧ (∀ j, j < k → wordsL.getD j [] ≠ l) ∧ wr = wA) (fun s4 _ => 17 - (intOf s4).toNat)
  case atStart => exact ⟨0, Nat.zero_le _, rfl, fun j h => by omega, rfl⟩
  case round =>
    obtain ⟨k, hk, rfl, hno, hw⟩ := hrel
    obtain rfl : wA = wr := hw.symm
    clear hw
    by_cases h1 : k < 16
    · have h1I : (k : Int) < 16 := by omega
      have h1d : decide ((k : Int) < 16) = true := decide_eq_true h1I
      have hk0 : (0 : Int) ≤ (k : Int) := by omega
      have c0 := HC.out k h1
      obtain ⟨X, hX⟩ : ∃ X : ByteArray, X = ofL (wordsL.getD k []) := ⟨_, rfl⟩
      rw [← hX] at c0
      have hXl : X.data.toList = wordsL.getD k [] := by rw [hX]; exact ofL_list _
      by_cases he : wordsL.getD k [] = l
      · have q : (X.toList == s.toList) = true := by
          rw [toList_data, toList_data, hXl, he, HL.out]
          simp
        have hr : isWord l = true := (word_get l).2 ⟨k, h1, he⟩
        have HR := Lib.hid hr
        clear he hX hXl hno hr
        go_wp2
        go_ret
        exact ⟨by rw [HR.out]; rfl, KA.out⟩
      · have q : (X.toList == s.toList) = false := by
          rw [toList_data, toList_data, hXl, ← HL.out]
          exact beq_eq_false_iff_ne.2 he
        have HN : Hid (∀ j, j < k + 1 → wordsL.getD j [] ≠ l) := fun j hj => by
          rcases Nat.lt_or_ge j k with h3 | h3
          · exact hno j h3
          · obtain rfl : j = k := by omega
            exact he
        clear he hX hXl hno
        go_wp2
        go_roundw
        case rel => exact ⟨k + 1, by omega, by go_num, HN.out, by first | rfl | trivial⟩
        case measure => simp [intOf]; omega
    · obtain rfl : k = 16 := by omega
      have hr : isWord l = false := by
        cases h : isWord l with
        | false => rfl
        | true =>
          obtain ⟨j, h2, h3⟩ := (word_get l).1 h
          exact absurd h3 (hno j h2)
      have HR := Lib.hid hr
      clear hno hr
      go_wp2
      go_ret
      exact ⟨by rw [HR.out]; rfl, KA.out⟩
theorem numA_split (l : List UInt8) : ∀ a, numA a l = a * 10 ^ l.length + numA 0 l := by
  induction l with
  | nil => intro a; show a = a * 10 ^ 0 + 0; simp
  | cons c r ih =>
    intro a
    rw [numA_cons, numA_cons, ih, ih (0 * 10 + (c.toNat - 48)), List.length_cons, Nat.pow_succ, Nat.zero_mul, Nat.zero_add, Nat.add_mul, Nat.mul_assoc, Nat.mul_comm 10]
    omega
theorem numA_lt {l : List UInt8} (h : ∀ c ∈ l, dig c = true) : numA 0 l < 10 ^ l.length := by
  induction l with
  | nil => show 0 < 10 ^ 0; decide
  | cons c r ih =>
    have h1 := ih fun d hd => h d (by simp [hd])
    have h2 := h c (by simp)
    unfold dig at h2
    simp only [Bool.and_eq_true, decide_eq_true_eq] at h2
    rw [numA_cons, numA_split, List.length_cons, Nat.pow_succ, Nat.zero_mul, Nat.zero_add]
    have h3 : (c.toNat - 48) * 10 ^ r.length ≤ 9 * 10 ^ r.length := Nat.mul_le_mul_right _ (by omega)
    omega
theorem digs_less {x : List UInt8} : ∀ {y : List UInt8}, x.length = y.length → (∀ c ∈ x, dig c = true) → (∀ c ∈ y, dig c = true) →
    (Op.bytesLess x y || x == y) = decide (numA 0 x ≤ numA 0 y) := by
  induction x with
  | nil =>
    intro y hl _ _
    have : y = [] := List.length_eq_zero_iff.1 hl.symm
    rw [this]
    rfl
  | cons a x ih =>
    intro y hl hx hy
    cases y with
    | nil => simp at hl
    | cons b y =>
      have hl2 : x.length = y.length := by simpa using hl
      have h1 := ih hl2 (fun d hd => hx d (by simp [hd])) (fun d hd => hy d (by simp [hd]))
      have va := numA_lt (fun d hd => hx d (List.mem_cons_of_mem _ hd))
      have vb := numA_lt (fun d hd => hy d (List.mem_cons_of_mem _ hd))
      have ha := hx a (by simp)
      have hb := hy b (by simp)
      unfold dig at ha hb
      simp only [Bool.and_eq_true, decide_eq_true_eq] at ha hb
      rw [numA_cons, numA_cons, numA_split x, numA_split y, Nat.zero_mul, Nat.zero_add, Nat.zero_add, hl2]
      rw [hl2] at va
      obtain ⟨P, hP⟩ : ∃ P, P = 10 ^ y.length := ⟨_, rfl⟩
      rw [← hP] at va vb ⊢
      show ((decide (a < b) || (a == b && Op.bytesLess x y)) || (a == b && x == y)) = _
      rcases Nat.lt_trichotomy a.toNat b.toNat with h | h | h
      · have e1 : decide (a < b) = true := decide_eq_true (UInt8.lt_iff_toNat_lt.2 h)
        have h3 : (a.toNat - 48 + 1) * P ≤ (b.toNat - 48) * P := Nat.mul_le_mul_right _ (by omega)
        rw [Nat.add_mul, Nat.one_mul] at h3
        rw [e1, decide_eq_true (by omega)]
        rfl
      · obtain rfl : a = b := UInt8.toNat_inj.1 h
        have e1 : decide (a < a) = false := decide_eq_false (fun h => by have := UInt8.lt_iff_toNat_lt.1 h; omega)
        have e2 : (a == a) = true := by simp
        rw [e1, e2, Bool.false_or, Bool.true_and, Bool.true_and, h1]
        rw [Bool.eq_iff_iff]
        simp only [decide_eq_true_eq]
        omega
      · have e1 : decide (a < b) = false := decide_eq_false (fun h2 => by have := UInt8.lt_iff_toNat_lt.1 h2; omega)
        have e2 : (a == b) = false := by
          rw [beq_eq_false_iff_ne]
          intro e
          rw [e] at h
          omega
        have h3 : (b.toNat - 48 + 1) * P ≤ (a.toNat - 48) * P := Nat.mul_le_mul_right _ (by omega)
        rw [Nat.add_mul, Nat.one_mul] at h3
        rw [e1, e2, decide_eq_false (by omega)]
        rfl
set_option maxRecDepth 100000 in
set_option maxHeartbeats 4000000 in
theorem rnumber_any (s : ByteArray) (hd : ∀ c ∈ s.data.toList, dig c = true) (w : World) : Calls Tryd.prog 87 #[.string s] w fun e w' => e = .returned (.bool (decide (numV s.data.toList ≤ 9223372036854775807 ∧ s.size ≤ 19))) ∧ w' = w := by
  have hv : numV s.data.toList = numA 0 s.data.toList := rfl
  have hlt := numA_lt hd
  rw [← hv, len_size] at hlt
  by_cases h1 : s.size < 19
  · have h1d : decide ((s.size : Int) < 19) = true := decide_eq_true (by omega)
    have h3 : 10 ^ s.size ≤ 10 ^ 18 := Nat.pow_le_pow_right (by decide) (by omega)
    have hr : decide (numV s.data.toList ≤ 9223372036854775807 ∧ s.size ≤ 19) = true := decide_eq_true ⟨by omega, by omega⟩
    have HR := Lib.hid hr
    clear hr hlt h3 hv hd
    go_enter Tryd.func87, Tryd.ntmps87
    go_wp2
    go_ret
    exact ⟨by rw [HR.out]; rfl, rfl⟩
  · have h1d : decide ((s.size : Int) < 19) = false := decide_eq_false (by omega)
    by_cases h2 : s.size = 19
    · have h2d : ((s.size : Int) == 19) = true := by simp; omega
      have hc := digs_less (x := s.data.toList) (y := [57, 50, 50, 51, 51, 55, 50, 48, 51, 54, 56, 53, 52, 55, 55, 53, 56, 48, 55]) (by rw [len_size, h2]; rfl) hd (by decide)
      rw [show numA 0 [57, 50, 50, 51, 51, 55, 50, 48, 51, 54, 56, 53, 52, 55, 55, 53, 56, 48, 55] = 9223372036854775807 by decide, ← hv] at hc
      have HC : Hid ((Op.bytesLess s.toList [57, 50, 50, 51, 51, 55, 50, 48, 51, 54, 56, 53, 52, 55, 55, 53, 56, 48, 55] || s.toList == [57, 50, 50, 51, 51, 55, 50, 48, 51, 54, 56, 53, 52, 55, 55, 53, 56, 48, 55]) = decide (numV s.data.toList ≤ 9223372036854775807 ∧ s.size ≤ 19)) := by
        rw [toList_data, hc, Bool.eq_iff_iff]
        simp only [decide_eq_true_eq]
        exact Lib.hid ⟨fun h => ⟨h, by omega⟩, fun h => h.1⟩
      have H2 := Lib.hid h2
      clear hc hlt hv hd h2 h1
      go_enter Tryd.func87, Tryd.ntmps87
      go_wp2
      go_ret
      exact ⟨by rw [← HC.out]; rfl, rfl⟩
    · have h2d : ((s.size : Int) == 19) = false := by simp; omega
      have hr : decide (numV s.data.toList ≤ 9223372036854775807 ∧ s.size ≤ 19) = false := decide_eq_false (fun h => by omega)
      have HR := Lib.hid hr
      clear hr hlt hv hd
      go_enter Tryd.func87, Tryd.ntmps87
      go_wp2
      go_ret
      exact ⟨by rw [HR.out]; rfl, rfl⟩
end Go.Proofs.YtgelggdgbmldiaaDoor
