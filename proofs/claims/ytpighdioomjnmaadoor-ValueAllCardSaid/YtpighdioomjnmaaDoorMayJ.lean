/-
  Layer 5: the walk of ValueMay, all its classes. Written by an AI agent.
-/
import Derived.Test.YtpighdioomjnmaaDoorMayN
import Derived.Test.YtpighdioomjnmaaDoorMayK
import Derived.Test.YtpighdioomjnmaaDoorMayE
import Derived.Test.YtpighdioomjnmaaDoorMayL
import Derived.Test.YtpighdioomjnmaaDoorMayD
import Derived.Test.YtpighdioomjnmaaDoorValE
import Derived.Test.YtpighdioomjnmaaDoorLogA
import Derived.Test.YtpighdioomjnmaaDoorDividesW
import Derived.Lib.Bytealg
namespace Go.Proofs.YtpighdioomjnmaaDoor.textsof
open Go.RowKit

theorem emptyL : (({ data := #[] } : ByteArray).toList.isEmpty) = true := by rw [Lib.toList_data]; rfl
theorem empty_of {s : ByteArray} (h : s.toList.isEmpty = true) : s = { data := #[] } := by
  rw [Lib.toList_data] at h
  obtain ⟨d⟩ := s
  have : d.toList = [] := by simpa using h
  have : d = #[] := by simpa using this
  rw [this]

abbrev ShortIs (t n : Int) (s x : ByteArray) : Prop := ∀ w, Calls Tryd.prog 11 #[.agg #[.int .i64 t, .int .i64 n, .string s]] w fun e w' => e = .returned (.agg #[.int .i64 t, .int .i64 n, .string x]) ∧ Below w.heap.size w w'
abbrev MayIs (t n : Int) (x : ByteArray) (b : Bool) : Prop := ∀ w, Calls Tryd.prog 25 #[.agg #[.int .i64 t, .int .i64 n, .string x]] w fun e w' => e = .returned (.bool b) ∧ Below w.heap.size w w'

theorem mayI (n : Int) : MayIs 1 n { data := #[] } true := fun w => by have h := may_int n { data := #[] } w; rwa [emptyL] at h
theorem mayB (b : Bool) : MayIs 2 (bN b) { data := #[] } true := fun w => by
  have h := may_bool (bN b) { data := #[] } (by cases b <;> decide) (by cases b <;> decide) w; rwa [emptyL] at h
theorem mayT (s : ByteArray) (hs : s.size ≤ 40) : MayIs 3 0 s true := fun w => by
  have h := may_text s w
  rwa [show decide ((s.size : Int) ≤ 40) = true from decide_eq_true (by omega)] at h

theorem short_all (t n : Int) (s : ByteArray) : ∃ x : ByteArray, x.size ≤ 60 ∧ ShortIs t n s x := by
  by_cases h : s.size ≤ 60
  · exact ⟨s, h, fun w => short_under t n s h w⟩
  · exact ⟨s.extract 0 60, by simp [ByteArray.size_extract]; omega, fun w => short_over t n s (by omega) w⟩

def OkV (t n : Int) (x : ByteArray) : Prop :=
  (t = 1 ∧ x = { data := #[] }) ∨ (t = 2 ∧ x = { data := #[] } ∧ (n = 0 ∨ n = 1)) ∨ (t = 3 ∧ n = 0 ∧ x.size ≤ 40) ∨ (t = 4 ∧ x = { data := #[] } ∧ 0 ≤ n)

theorem may_all (t n : Int) (x : ByteArray) : ∃ b : Bool, (b = true ↔ OkV t n x) ∧ MayIs t n x b := by
  have em : x = { data := #[] } → x.toList.isEmpty = true := fun h => by rw [h]; exact emptyL
  by_cases h1 : t = 1
  · subst h1
    exact ⟨_, ⟨fun h => Or.inl ⟨rfl, empty_of h⟩, fun h => by unfold OkV at h; exact em (by rcases h with h | h | h | h <;> simp_all)⟩, fun w => may_int n x w⟩
  by_cases h2 : t = 2
  · subst h2
    by_cases a : n < 0
    · exact ⟨_, ⟨(fun h => by cases h), fun h => by unfold OkV at h; exfalso; omega⟩, fun w => may_boolL n x a w⟩
    by_cases b : 1 < n
    · exact ⟨_, ⟨(fun h => by cases h), fun h => by unfold OkV at h; exfalso; omega⟩, fun w => may_boolM n x b w⟩
    exact ⟨_, ⟨fun h => Or.inr (Or.inl ⟨rfl, empty_of h, by omega⟩), fun h => by unfold OkV at h; exact em (by rcases h with h | h | h | h <;> simp_all)⟩, fun w => may_bool n x (by omega) (by omega) w⟩
  by_cases h3 : t = 3
  · subst h3
    by_cases a : n = 0
    · subst a
      exact ⟨_, ⟨fun h => Or.inr (Or.inr (Or.inl ⟨rfl, rfl, by have := of_decide_eq_true h; omega⟩)), fun h => by unfold OkV at h; exact decide_eq_true (by omega)⟩, fun w => may_text x w⟩
    · exact ⟨_, ⟨(fun h => by cases h), fun h => by unfold OkV at h; exfalso; omega⟩, fun w => may_textN n x a w⟩
  by_cases h4 : t = 4
  · subst h4
    by_cases a : n < 0
    · exact ⟨_, ⟨(fun h => by cases h), fun h => by unfold OkV at h; exfalso; omega⟩, fun w => may_listL n x a w⟩
    · exact ⟨_, ⟨fun h => Or.inr (Or.inr (Or.inr ⟨rfl, empty_of h, by omega⟩)), fun h => by unfold OkV at h; exact em (by rcases h with h | h | h | h <;> simp_all)⟩, fun w => may_list n x (by omega) w⟩
  exact ⟨_, ⟨(fun h => by cases h), fun h => by unfold OkV at h; exfalso; omega⟩, fun w => may_none t n x h1 h2 h3 h4 w⟩

set_option maxHeartbeats 1000000 in
theorem join1 (na nb : Int) (sa sb : ByteArray) (z : Nat) (hz : z < 256)
    (SA : ShortIs 1 na sa ({ data := #[] } : ByteArray)) (SB : ShortIs 1 nb sb ({ data := #[] } : ByteArray)) (MA : MayIs 1 na ({ data := #[] } : ByteArray) true) (MB : MayIs 1 nb ({ data := #[] } : ByteArray) true) (w : World) :
    Calls Tryd.prog 4 #[.agg #[.int .i64 1, .int .i64 na, .string sa], .agg #[.int .i64 1, .int .i64 nb, .string sb], .int .u8 (z : Int)] w fun e w' => e = .returned (.bool true) ∧ Below w.heap.size w w' := by
  have hk : z % 13 = 0 ∨ z % 13 = 1 ∨ z % 13 = 2 ∨ z % 13 = 3 ∨ z % 13 = 4 ∨ z % 13 = 5 ∨ z % 13 = 6 ∨ z % 13 = 7 ∨ z % 13 = 8 ∨ z % 13 = 9 ∨ z % 13 = 10 ∨ z % 13 = 11 ∨ z % 13 = 12 := by omega
  rcases hk with hk | hk | hk | hk | hk | hk | hk | hk | hk | hk | hk | hk | hk
  · have hg : sg (z % 13) = { data := #[43] } := by rw [hk]; rfl
    exact walk_add 1 na nb (wrap64 (na + nb)) (by decide) sa sb ({ data := #[] } : ByteArray) ({ data := #[] } : ByteArray) { data := #[] } z hz hg SA SB MA MB (fun w => bin_add na nb w) (fun w => mayI _ w) w
  · have hg : sg (z % 13) = { data := #[45] } := by rw [hk]; rfl
    exact walk_sub 1 na nb (wrap64 (na - nb)) (by decide) sa sb ({ data := #[] } : ByteArray) ({ data := #[] } : ByteArray) { data := #[] } z hz hg SA SB MA MB (fun w => bin_sub na nb w) (fun w => mayI _ w) w
  · have hg : sg (z % 13) = { data := #[42] } := by rw [hk]; rfl
    exact walk_mul 1 na nb (wrap64 (na * nb)) (by decide) sa sb ({ data := #[] } : ByteArray) ({ data := #[] } : ByteArray) { data := #[] } z hz hg SA SB MA MB (fun w => bin_mul na nb w) (fun w => mayI _ w) w
  · have hg : sg (z % 13) = { data := #[47] } := by rw [hk]; rfl
    by_cases hn : nb = 0
    · subst hn
      exact walk_quo0 1 na sa sb ({ data := #[] } : ByteArray) z hz hg SA SB MA MB (fun w => divides.bin_quo0 na w) w
    · exact walk_quo 1 na nb (wrap64 (na.tdiv nb)) (by decide) sa sb ({ data := #[] } : ByteArray) ({ data := #[] } : ByteArray) { data := #[] } z hz hg SA SB MA MB (fun w => bin_quo na nb hn w) (fun w => mayI _ w) w
  · have hg : sg (z % 13) = { data := #[37] } := by rw [hk]; rfl
    by_cases hn : nb = 0
    · subst hn
      exact walk_rem0 1 na sa sb ({ data := #[] } : ByteArray) z hz hg SA SB MA MB (fun w => divides.bin_rem0 na w) w
    · exact walk_rem 1 na nb (na.tmod nb) (by decide) sa sb ({ data := #[] } : ByteArray) ({ data := #[] } : ByteArray) { data := #[] } z hz hg SA SB MA MB (fun w => bin_rem na nb hn w) (fun w => mayI _ w) w
  · have hg : sg (z % 13) = { data := #[60] } := by rw [hk]; rfl
    exact walk_lss 1 na nb (bN (decide (na < nb))) (by decide) sa sb ({ data := #[] } : ByteArray) ({ data := #[] } : ByteArray) { data := #[] } z hz hg SA SB MA MB (fun w => bin_lss na nb w) (fun w => mayB _ w) w
  · have hg : sg (z % 13) = { data := #[60, 61] } := by rw [hk]; rfl
    exact walk_leq 1 na nb (bN (decide (na ≤ nb))) (by decide) sa sb ({ data := #[] } : ByteArray) ({ data := #[] } : ByteArray) { data := #[] } z hz hg SA SB MA MB (fun w => bin_leq na nb w) (fun w => mayB _ w) w
  · have hg : sg (z % 13) = { data := #[61, 61] } := by rw [hk]; rfl
    by_cases hn : na = nb
    · subst hn
      exact walk_eq 1 na na (bN ((({ data := #[] } : ByteArray)).toList == (({ data := #[] } : ByteArray)).toList)) (by decide) sa sb ({ data := #[] } : ByteArray) ({ data := #[] } : ByteArray) { data := #[] } z hz hg SA SB MA MB (fun w => bin_eq 1 na ({ data := #[] } : ByteArray) ({ data := #[] } : ByteArray) (by decide) (by decide) w) (fun w => mayB _ w) w
    · exact walk_eq 1 na nb (bN false) (by decide) sa sb ({ data := #[] } : ByteArray) ({ data := #[] } : ByteArray) { data := #[] } z hz hg SA SB MA MB (fun w => bin_eqN 1 na nb ({ data := #[] } : ByteArray) ({ data := #[] } : ByteArray) (by decide) (by decide) hn w) (fun w => mayB _ w) w
  · have hg : sg (z % 13) = { data := #[33, 61] } := by rw [hk]; rfl
    by_cases hn : na = nb
    · subst hn
      exact walk_ne 1 na na (bN (!((({ data := #[] } : ByteArray)).toList == (({ data := #[] } : ByteArray)).toList))) (by decide) sa sb ({ data := #[] } : ByteArray) ({ data := #[] } : ByteArray) { data := #[] } z hz hg SA SB MA MB (fun w => bin_ne 1 na ({ data := #[] } : ByteArray) ({ data := #[] } : ByteArray) (by decide) (by decide) w) (fun w => mayB _ w) w
    · exact walk_ne 1 na nb (bN (!false)) (by decide) sa sb ({ data := #[] } : ByteArray) ({ data := #[] } : ByteArray) { data := #[] } z hz hg SA SB MA MB (fun w => bin_neN 1 na nb ({ data := #[] } : ByteArray) ({ data := #[] } : ByteArray) (by decide) (by decide) hn w) (fun w => mayB _ w) w
  · have hg : sg (z % 13) = { data := #[124, 124] } := by rw [hk]; rfl
    exact walk_none 1 na 1 nb sa sb ({ data := #[] } : ByteArray) ({ data := #[] } : ByteArray) z hz _ hg SA SB MA MB (fun w => bin1_or na nb ({ data := #[] } : ByteArray) ({ data := #[] } : ByteArray) w) w
  · have hg : sg (z % 13) = { data := #[38, 38] } := by rw [hk]; rfl
    exact walk_none 1 na 1 nb sa sb ({ data := #[] } : ByteArray) ({ data := #[] } : ByteArray) z hz _ hg SA SB MA MB (fun w => bin1_and na nb ({ data := #[] } : ByteArray) ({ data := #[] } : ByteArray) w) w
  · have hg : sg (z % 13) = { data := #[33] } := by rw [hk]; rfl
    exact walk_none 1 na 1 nb sa sb ({ data := #[] } : ByteArray) ({ data := #[] } : ByteArray) z hz _ hg SA SB MA MB (fun w => bin1_not na nb ({ data := #[] } : ByteArray) ({ data := #[] } : ByteArray) w) w
  · have hg : sg (z % 13) = { data := #[63] } := by rw [hk]; rfl
    exact walk_none 1 na 1 nb sa sb ({ data := #[] } : ByteArray) ({ data := #[] } : ByteArray) z hz _ hg SA SB MA MB (fun w => bin1_ask na nb ({ data := #[] } : ByteArray) ({ data := #[] } : ByteArray) w) w

set_option maxHeartbeats 1000000 in
theorem join2 (na nb : Int) (sa sb : ByteArray) (ha : na = 0 ∨ na = 1) (hb : nb = 0 ∨ nb = 1) (z : Nat) (hz : z < 256)
    (SA : ShortIs 2 na sa ({ data := #[] } : ByteArray)) (SB : ShortIs 2 nb sb ({ data := #[] } : ByteArray)) (MA : MayIs 2 na ({ data := #[] } : ByteArray) true) (MB : MayIs 2 nb ({ data := #[] } : ByteArray) true) (w : World) :
    Calls Tryd.prog 4 #[.agg #[.int .i64 2, .int .i64 na, .string sa], .agg #[.int .i64 2, .int .i64 nb, .string sb], .int .u8 (z : Int)] w fun e w' => e = .returned (.bool true) ∧ Below w.heap.size w w' := by
  have hk : z % 13 = 0 ∨ z % 13 = 1 ∨ z % 13 = 2 ∨ z % 13 = 3 ∨ z % 13 = 4 ∨ z % 13 = 5 ∨ z % 13 = 6 ∨ z % 13 = 7 ∨ z % 13 = 8 ∨ z % 13 = 9 ∨ z % 13 = 10 ∨ z % 13 = 11 ∨ z % 13 = 12 := by omega
  rcases hk with hk | hk | hk | hk | hk | hk | hk | hk | hk | hk | hk | hk | hk
  · have hg : sg (z % 13) = { data := #[43] } := by rw [hk]; rfl
    exact walk_none 2 na 2 nb sa sb ({ data := #[] } : ByteArray) ({ data := #[] } : ByteArray) z hz _ hg SA SB MA MB (fun w => bin2_add na nb ({ data := #[] } : ByteArray) ({ data := #[] } : ByteArray) w) w
  · have hg : sg (z % 13) = { data := #[45] } := by rw [hk]; rfl
    exact walk_none 2 na 2 nb sa sb ({ data := #[] } : ByteArray) ({ data := #[] } : ByteArray) z hz _ hg SA SB MA MB (fun w => bin2_sub na nb ({ data := #[] } : ByteArray) ({ data := #[] } : ByteArray) w) w
  · have hg : sg (z % 13) = { data := #[42] } := by rw [hk]; rfl
    exact walk_none 2 na 2 nb sa sb ({ data := #[] } : ByteArray) ({ data := #[] } : ByteArray) z hz _ hg SA SB MA MB (fun w => bin2_mul na nb ({ data := #[] } : ByteArray) ({ data := #[] } : ByteArray) w) w
  · have hg : sg (z % 13) = { data := #[47] } := by rw [hk]; rfl
    exact walk_none 2 na 2 nb sa sb ({ data := #[] } : ByteArray) ({ data := #[] } : ByteArray) z hz _ hg SA SB MA MB (fun w => bin2_quo na nb ({ data := #[] } : ByteArray) ({ data := #[] } : ByteArray) w) w
  · have hg : sg (z % 13) = { data := #[37] } := by rw [hk]; rfl
    exact walk_none 2 na 2 nb sa sb ({ data := #[] } : ByteArray) ({ data := #[] } : ByteArray) z hz _ hg SA SB MA MB (fun w => bin2_rem na nb ({ data := #[] } : ByteArray) ({ data := #[] } : ByteArray) w) w
  · have hg : sg (z % 13) = { data := #[60] } := by rw [hk]; rfl
    exact walk_none 2 na 2 nb sa sb ({ data := #[] } : ByteArray) ({ data := #[] } : ByteArray) z hz _ hg SA SB MA MB (fun w => bin2_lss na nb ({ data := #[] } : ByteArray) ({ data := #[] } : ByteArray) w) w
  · have hg : sg (z % 13) = { data := #[60, 61] } := by rw [hk]; rfl
    exact walk_none 2 na 2 nb sa sb ({ data := #[] } : ByteArray) ({ data := #[] } : ByteArray) z hz _ hg SA SB MA MB (fun w => bin2_leq na nb ({ data := #[] } : ByteArray) ({ data := #[] } : ByteArray) w) w
  · have hg : sg (z % 13) = { data := #[61, 61] } := by rw [hk]; rfl
    by_cases hn : na = nb
    · subst hn
      exact walk_eq 2 na na (bN ((({ data := #[] } : ByteArray)).toList == (({ data := #[] } : ByteArray)).toList)) (by decide) sa sb ({ data := #[] } : ByteArray) ({ data := #[] } : ByteArray) { data := #[] } z hz hg SA SB MA MB (fun w => bin_eq 2 na ({ data := #[] } : ByteArray) ({ data := #[] } : ByteArray) (by decide) (by decide) w) (fun w => mayB _ w) w
    · exact walk_eq 2 na nb (bN false) (by decide) sa sb ({ data := #[] } : ByteArray) ({ data := #[] } : ByteArray) { data := #[] } z hz hg SA SB MA MB (fun w => bin_eqN 2 na nb ({ data := #[] } : ByteArray) ({ data := #[] } : ByteArray) (by decide) (by decide) hn w) (fun w => mayB _ w) w
  · have hg : sg (z % 13) = { data := #[33, 61] } := by rw [hk]; rfl
    by_cases hn : na = nb
    · subst hn
      exact walk_ne 2 na na (bN (!((({ data := #[] } : ByteArray)).toList == (({ data := #[] } : ByteArray)).toList))) (by decide) sa sb ({ data := #[] } : ByteArray) ({ data := #[] } : ByteArray) { data := #[] } z hz hg SA SB MA MB (fun w => bin_ne 2 na ({ data := #[] } : ByteArray) ({ data := #[] } : ByteArray) (by decide) (by decide) w) (fun w => mayB _ w) w
    · exact walk_ne 2 na nb (bN (!false)) (by decide) sa sb ({ data := #[] } : ByteArray) ({ data := #[] } : ByteArray) { data := #[] } z hz hg SA SB MA MB (fun w => bin_neN 2 na nb ({ data := #[] } : ByteArray) ({ data := #[] } : ByteArray) (by decide) (by decide) hn w) (fun w => mayB _ w) w
  · have hg : sg (z % 13) = { data := #[124, 124] } := by rw [hk]; rfl
    rcases ha with rfl | rfl <;> rcases hb with rfl | rfl
    · exact walk_or 2 0 0 0 (by decide) sa sb ({ data := #[] } : ByteArray) ({ data := #[] } : ByteArray) { data := #[] } z hz hg SA SB MA MB (fun w => logic.bin_or00 w) (fun w => mayB false w) w
    · exact walk_or 2 0 1 1 (by decide) sa sb ({ data := #[] } : ByteArray) ({ data := #[] } : ByteArray) { data := #[] } z hz hg SA SB MA MB (fun w => logic.bin_or01 w) (fun w => mayB true w) w
    · exact walk_or 2 1 0 1 (by decide) sa sb ({ data := #[] } : ByteArray) ({ data := #[] } : ByteArray) { data := #[] } z hz hg SA SB MA MB (fun w => logic.bin_or10 w) (fun w => mayB true w) w
    · exact walk_or 2 1 1 1 (by decide) sa sb ({ data := #[] } : ByteArray) ({ data := #[] } : ByteArray) { data := #[] } z hz hg SA SB MA MB (fun w => logic.bin_or11 w) (fun w => mayB true w) w
  · have hg : sg (z % 13) = { data := #[38, 38] } := by rw [hk]; rfl
    rcases ha with rfl | rfl <;> rcases hb with rfl | rfl
    · exact walk_and 2 0 0 0 (by decide) sa sb ({ data := #[] } : ByteArray) ({ data := #[] } : ByteArray) { data := #[] } z hz hg SA SB MA MB (fun w => logic.bin_and00 w) (fun w => mayB false w) w
    · exact walk_and 2 0 1 0 (by decide) sa sb ({ data := #[] } : ByteArray) ({ data := #[] } : ByteArray) { data := #[] } z hz hg SA SB MA MB (fun w => logic.bin_and01 w) (fun w => mayB false w) w
    · exact walk_and 2 1 0 0 (by decide) sa sb ({ data := #[] } : ByteArray) ({ data := #[] } : ByteArray) { data := #[] } z hz hg SA SB MA MB (fun w => logic.bin_and10 w) (fun w => mayB false w) w
    · exact walk_and 2 1 1 1 (by decide) sa sb ({ data := #[] } : ByteArray) ({ data := #[] } : ByteArray) { data := #[] } z hz hg SA SB MA MB (fun w => logic.bin_and11 w) (fun w => mayB true w) w
  · have hg : sg (z % 13) = { data := #[33] } := by rw [hk]; rfl
    exact walk_none 2 na 2 nb sa sb ({ data := #[] } : ByteArray) ({ data := #[] } : ByteArray) z hz _ hg SA SB MA MB (fun w => bin2_not na nb ({ data := #[] } : ByteArray) ({ data := #[] } : ByteArray) w) w
  · have hg : sg (z % 13) = { data := #[63] } := by rw [hk]; rfl
    exact walk_none 2 na 2 nb sa sb ({ data := #[] } : ByteArray) ({ data := #[] } : ByteArray) z hz _ hg SA SB MA MB (fun w => bin2_ask na nb ({ data := #[] } : ByteArray) ({ data := #[] } : ByteArray) w) w

set_option maxHeartbeats 1000000 in
theorem join3 (na nb : Int) (sa sb : ByteArray) (xa xb : ByteArray) (hla : xa.size ≤ 60) (hlb : xb.size ≤ 60) (ha : na = 0) (hb : nb = 0) (z : Nat) (hz : z < 256)
    (SA : ShortIs 3 na sa xa) (SB : ShortIs 3 nb sb xb) (MA : MayIs 3 na xa true) (MB : MayIs 3 nb xb true) (w : World) :
    Calls Tryd.prog 4 #[.agg #[.int .i64 3, .int .i64 na, .string sa], .agg #[.int .i64 3, .int .i64 nb, .string sb], .int .u8 (z : Int)] w fun e w' => e = .returned (.bool true) ∧ Below w.heap.size w w' := by
  subst ha
  subst hb
  have hk : z % 13 = 0 ∨ z % 13 = 1 ∨ z % 13 = 2 ∨ z % 13 = 3 ∨ z % 13 = 4 ∨ z % 13 = 5 ∨ z % 13 = 6 ∨ z % 13 = 7 ∨ z % 13 = 8 ∨ z % 13 = 9 ∨ z % 13 = 10 ∨ z % 13 = 11 ∨ z % 13 = 12 := by omega
  rcases hk with hk | hk | hk | hk | hk | hk | hk | hk | hk | hk | hk | hk | hk
  · have hg : sg (z % 13) = { data := #[43] } := by rw [hk]; rfl
    by_cases hl : xa.size + xb.size ≤ 40
    · exact walk_add 3 0 0 0 (by decide) sa sb xa xb (xa ++ xb) z hz hg SA SB MA MB (fun w => bin_plus xa xb hla hlb hl w) (fun w => mayT _ (by rw [ByteArray.size_append]; omega) w) w
    · exact walk_long 3 0 3 0 sa sb xa xb z hz hg hla hlb (by omega) SA SB MA MB (fun w => bin_long xa xb hla hlb (by omega) w) w
  · have hg : sg (z % 13) = { data := #[45] } := by rw [hk]; rfl
    exact walk_none 3 0 3 0 sa sb xa xb z hz _ hg SA SB MA MB (fun w => bin3_sub 0 0 xa xb w) w
  · have hg : sg (z % 13) = { data := #[42] } := by rw [hk]; rfl
    exact walk_none 3 0 3 0 sa sb xa xb z hz _ hg SA SB MA MB (fun w => bin3_mul 0 0 xa xb w) w
  · have hg : sg (z % 13) = { data := #[47] } := by rw [hk]; rfl
    exact walk_none 3 0 3 0 sa sb xa xb z hz _ hg SA SB MA MB (fun w => bin3_quo 0 0 xa xb w) w
  · have hg : sg (z % 13) = { data := #[37] } := by rw [hk]; rfl
    exact walk_none 3 0 3 0 sa sb xa xb z hz _ hg SA SB MA MB (fun w => bin3_rem 0 0 xa xb w) w
  · have hg : sg (z % 13) = { data := #[60] } := by rw [hk]; rfl
    exact walk_none 3 0 3 0 sa sb xa xb z hz _ hg SA SB MA MB (fun w => bin3_lss 0 0 xa xb w) w
  · have hg : sg (z % 13) = { data := #[60, 61] } := by rw [hk]; rfl
    exact walk_none 3 0 3 0 sa sb xa xb z hz _ hg SA SB MA MB (fun w => bin3_leq 0 0 xa xb w) w
  · have hg : sg (z % 13) = { data := #[61, 61] } := by rw [hk]; rfl
    exact walk_eq 3 0 0 (bN ((xa).toList == (xb).toList)) (by decide) sa sb xa xb { data := #[] } z hz hg SA SB MA MB (fun w => bin_eq 3 0 xa xb (by decide) (by decide) w) (fun w => mayB _ w) w
  · have hg : sg (z % 13) = { data := #[33, 61] } := by rw [hk]; rfl
    exact walk_ne 3 0 0 (bN (!((xa).toList == (xb).toList))) (by decide) sa sb xa xb { data := #[] } z hz hg SA SB MA MB (fun w => bin_ne 3 0 xa xb (by decide) (by decide) w) (fun w => mayB _ w) w
  · have hg : sg (z % 13) = { data := #[124, 124] } := by rw [hk]; rfl
    exact walk_none 3 0 3 0 sa sb xa xb z hz _ hg SA SB MA MB (fun w => bin3_or 0 0 xa xb w) w
  · have hg : sg (z % 13) = { data := #[38, 38] } := by rw [hk]; rfl
    exact walk_none 3 0 3 0 sa sb xa xb z hz _ hg SA SB MA MB (fun w => bin3_and 0 0 xa xb w) w
  · have hg : sg (z % 13) = { data := #[33] } := by rw [hk]; rfl
    exact walk_none 3 0 3 0 sa sb xa xb z hz _ hg SA SB MA MB (fun w => bin3_not 0 0 xa xb w) w
  · have hg : sg (z % 13) = { data := #[63] } := by rw [hk]; rfl
    exact walk_none 3 0 3 0 sa sb xa xb z hz _ hg SA SB MA MB (fun w => bin3_ask 0 0 xa xb w) w

set_option maxHeartbeats 1000000 in
theorem join4 (na nb : Int) (sa sb : ByteArray) (z : Nat) (hz : z < 256)
    (SA : ShortIs 4 na sa ({ data := #[] } : ByteArray)) (SB : ShortIs 4 nb sb ({ data := #[] } : ByteArray)) (MA : MayIs 4 na ({ data := #[] } : ByteArray) true) (MB : MayIs 4 nb ({ data := #[] } : ByteArray) true) (w : World) :
    Calls Tryd.prog 4 #[.agg #[.int .i64 4, .int .i64 na, .string sa], .agg #[.int .i64 4, .int .i64 nb, .string sb], .int .u8 (z : Int)] w fun e w' => e = .returned (.bool true) ∧ Below w.heap.size w w' := by
  have hk : z % 13 = 0 ∨ z % 13 = 1 ∨ z % 13 = 2 ∨ z % 13 = 3 ∨ z % 13 = 4 ∨ z % 13 = 5 ∨ z % 13 = 6 ∨ z % 13 = 7 ∨ z % 13 = 8 ∨ z % 13 = 9 ∨ z % 13 = 10 ∨ z % 13 = 11 ∨ z % 13 = 12 := by omega
  rcases hk with hk | hk | hk | hk | hk | hk | hk | hk | hk | hk | hk | hk | hk
  · have hg : sg (z % 13) = { data := #[43] } := by rw [hk]; rfl
    exact walk_none 4 na 4 nb sa sb ({ data := #[] } : ByteArray) ({ data := #[] } : ByteArray) z hz _ hg SA SB MA MB (fun w => bin4_add na nb ({ data := #[] } : ByteArray) ({ data := #[] } : ByteArray) w) w
  · have hg : sg (z % 13) = { data := #[45] } := by rw [hk]; rfl
    exact walk_none 4 na 4 nb sa sb ({ data := #[] } : ByteArray) ({ data := #[] } : ByteArray) z hz _ hg SA SB MA MB (fun w => bin4_sub na nb ({ data := #[] } : ByteArray) ({ data := #[] } : ByteArray) w) w
  · have hg : sg (z % 13) = { data := #[42] } := by rw [hk]; rfl
    exact walk_none 4 na 4 nb sa sb ({ data := #[] } : ByteArray) ({ data := #[] } : ByteArray) z hz _ hg SA SB MA MB (fun w => bin4_mul na nb ({ data := #[] } : ByteArray) ({ data := #[] } : ByteArray) w) w
  · have hg : sg (z % 13) = { data := #[47] } := by rw [hk]; rfl
    exact walk_none 4 na 4 nb sa sb ({ data := #[] } : ByteArray) ({ data := #[] } : ByteArray) z hz _ hg SA SB MA MB (fun w => bin4_quo na nb ({ data := #[] } : ByteArray) ({ data := #[] } : ByteArray) w) w
  · have hg : sg (z % 13) = { data := #[37] } := by rw [hk]; rfl
    exact walk_none 4 na 4 nb sa sb ({ data := #[] } : ByteArray) ({ data := #[] } : ByteArray) z hz _ hg SA SB MA MB (fun w => bin4_rem na nb ({ data := #[] } : ByteArray) ({ data := #[] } : ByteArray) w) w
  · have hg : sg (z % 13) = { data := #[60] } := by rw [hk]; rfl
    exact walk_none 4 na 4 nb sa sb ({ data := #[] } : ByteArray) ({ data := #[] } : ByteArray) z hz _ hg SA SB MA MB (fun w => bin4_lss na nb ({ data := #[] } : ByteArray) ({ data := #[] } : ByteArray) w) w
  · have hg : sg (z % 13) = { data := #[60, 61] } := by rw [hk]; rfl
    exact walk_none 4 na 4 nb sa sb ({ data := #[] } : ByteArray) ({ data := #[] } : ByteArray) z hz _ hg SA SB MA MB (fun w => bin4_leq na nb ({ data := #[] } : ByteArray) ({ data := #[] } : ByteArray) w) w
  · have hg : sg (z % 13) = { data := #[61, 61] } := by rw [hk]; rfl
    by_cases hn : na = nb
    · subst hn
      exact walk_eq 4 na na (bN ((({ data := #[] } : ByteArray)).toList == (({ data := #[] } : ByteArray)).toList)) (by decide) sa sb ({ data := #[] } : ByteArray) ({ data := #[] } : ByteArray) { data := #[] } z hz hg SA SB MA MB (fun w => bin_eq 4 na ({ data := #[] } : ByteArray) ({ data := #[] } : ByteArray) (by decide) (by decide) w) (fun w => mayB _ w) w
    · exact walk_eq 4 na nb (bN false) (by decide) sa sb ({ data := #[] } : ByteArray) ({ data := #[] } : ByteArray) { data := #[] } z hz hg SA SB MA MB (fun w => bin_eqN 4 na nb ({ data := #[] } : ByteArray) ({ data := #[] } : ByteArray) (by decide) (by decide) hn w) (fun w => mayB _ w) w
  · have hg : sg (z % 13) = { data := #[33, 61] } := by rw [hk]; rfl
    by_cases hn : na = nb
    · subst hn
      exact walk_ne 4 na na (bN (!((({ data := #[] } : ByteArray)).toList == (({ data := #[] } : ByteArray)).toList))) (by decide) sa sb ({ data := #[] } : ByteArray) ({ data := #[] } : ByteArray) { data := #[] } z hz hg SA SB MA MB (fun w => bin_ne 4 na ({ data := #[] } : ByteArray) ({ data := #[] } : ByteArray) (by decide) (by decide) w) (fun w => mayB _ w) w
    · exact walk_ne 4 na nb (bN (!false)) (by decide) sa sb ({ data := #[] } : ByteArray) ({ data := #[] } : ByteArray) { data := #[] } z hz hg SA SB MA MB (fun w => bin_neN 4 na nb ({ data := #[] } : ByteArray) ({ data := #[] } : ByteArray) (by decide) (by decide) hn w) (fun w => mayB _ w) w
  · have hg : sg (z % 13) = { data := #[124, 124] } := by rw [hk]; rfl
    exact walk_none 4 na 4 nb sa sb ({ data := #[] } : ByteArray) ({ data := #[] } : ByteArray) z hz _ hg SA SB MA MB (fun w => bin4_or na nb ({ data := #[] } : ByteArray) ({ data := #[] } : ByteArray) w) w
  · have hg : sg (z % 13) = { data := #[38, 38] } := by rw [hk]; rfl
    exact walk_none 4 na 4 nb sa sb ({ data := #[] } : ByteArray) ({ data := #[] } : ByteArray) z hz _ hg SA SB MA MB (fun w => bin4_and na nb ({ data := #[] } : ByteArray) ({ data := #[] } : ByteArray) w) w
  · have hg : sg (z % 13) = { data := #[33] } := by rw [hk]; rfl
    exact walk_none 4 na 4 nb sa sb ({ data := #[] } : ByteArray) ({ data := #[] } : ByteArray) z hz _ hg SA SB MA MB (fun w => bin4_not na nb ({ data := #[] } : ByteArray) ({ data := #[] } : ByteArray) w) w
  · have hg : sg (z % 13) = { data := #[63] } := by rw [hk]; rfl
    exact walk_none 4 na 4 nb sa sb ({ data := #[] } : ByteArray) ({ data := #[] } : ByteArray) z hz _ hg SA SB MA MB (fun w => bin4_ask na nb ({ data := #[] } : ByteArray) ({ data := #[] } : ByteArray) w) w

theorem may_walk (ta na tb nb : Int) (sa sb : ByteArray) (z : Nat) (hz : z < 256) (w : World) :
    Calls Tryd.prog 4 #[.agg #[.int .i64 ta, .int .i64 na, .string sa], .agg #[.int .i64 tb, .int .i64 nb, .string sb], .int .u8 (z : Int)] w fun e w' => e = .returned (.bool true) ∧ Below w.heap.size w w' := by
  obtain ⟨xa, lxa, SA⟩ := short_all ta na sa
  obtain ⟨xb, lxb, SB⟩ := short_all tb nb sb
  obtain ⟨ba, oka, MA⟩ := may_all ta na xa
  obtain ⟨bb, okb, MB⟩ := may_all tb nb xb
  cases ba with
  | false => exact walk_notA ta na tb nb sa sb xa xb z hz (sg (z % 13)) rfl SA SB MA w
  | true =>
    cases bb with
    | false => exact walk_notB ta na tb nb sa sb xa xb z hz (sg (z % 13)) rfl SA SB MA MB w
    | true =>
      by_cases ht : ta = tb
      · subst ht
        have hb := okb.1 rfl
        unfold OkV at hb
        rcases oka.1 rfl with ⟨h, hx⟩ | ⟨h, hx, hn⟩ | ⟨h, hn, hx⟩ | ⟨h, hx, hn⟩ <;> subst h
        · have hy : xb = { data := #[] } := by rcases hb with h | h | h | h <;> simp_all
          subst hx
          subst hy
          exact join1 na nb sa sb z hz SA SB MA MB w
        · have hy : xb = { data := #[] } ∧ (nb = 0 ∨ nb = 1) := by rcases hb with h | h | h | h <;> simp_all
          obtain ⟨hy, hn2⟩ := hy
          subst hx
          subst hy
          exact join2 na nb sa sb hn hn2 z hz SA SB MA MB w
        · have hy : nb = 0 := by rcases hb with h | h | h | h <;> simp_all
          exact join3 na nb sa sb xa xb lxa lxb hn hy z hz SA SB MA MB w
        · have hy : xb = { data := #[] } := by rcases hb with h | h | h | h <;> simp_all
          subst hx
          subst hy
          exact join4 na nb sa sb z hz SA SB MA MB w
      · exact walk_none ta na tb nb sa sb xa xb z hz (sg (z % 13)) rfl SA SB MA MB (fun w => bin_types _ ta tb na nb xa xb ht w) w
end Go.Proofs.YtpighdioomjnmaaDoor.textsof
