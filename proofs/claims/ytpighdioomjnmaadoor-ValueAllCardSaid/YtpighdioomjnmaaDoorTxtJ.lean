/-
  Layer 5: the walk of ValueTexts, all its classes. Written by an AI agent.
-/
import Derived.Test.YtpighdioomjnmaaDoorTxtE
import Derived.Test.YtpighdioomjnmaaDoorTxtQ
import Derived.Test.YtpighdioomjnmaaDoorTxtN
import Derived.Test.YtpighdioomjnmaaDoorTxtS
import Derived.Test.YtpighdioomjnmaaDoorMayJ
namespace Go.Proofs.YtpighdioomjnmaaDoor.textsof
open Go.RowKit
set_option linter.unusedVariables false

theorem ne_list {a b : ByteArray} (h : ¬ a = b) : (a.toList == b.toList) = false := by
  refine beq_false_of_ne fun e => h ?_
  rw [Lib.toList_data, Lib.toList_data] at e
  obtain ⟨da⟩ := a
  obtain ⟨db⟩ := b
  have : da = db := Array.ext' e
  rw [this]

/-- What a value is printed as; and so that texts are unlike all else. -/
def wOf (t n : Int) (x : ByteArray) : ByteArray := if t = 1 then numS n else if t = 2 then boolS n else x
def qOf (t n : Int) (x : ByteArray) : ByteArray := if t = 3 then quoS x else wOf t n x

theorem word_all (t n : Int) (x : ByteArray) (h : OkV t n x) (h4 : ¬ t = 4) (h0 : -9223372036854775808 ≤ n) (h1 : n ≤ 9223372036854775807) (w : World) (hT : TabW w) :
    Calls Tryd.prog 27 #[.agg #[.int .i64 t, .int .i64 n, .string x]] w fun e w' => e = .returned (.string (wOf t n x)) ∧ Below w.heap.size w w' := by
  rcases h with ⟨rfl, rfl⟩ | ⟨rfl, rfl, hn⟩ | ⟨rfl, rfl, hx⟩ | ⟨rfl, _⟩
  · exact word_int n _ h0 h1 w hT
  · rcases hn with rfl | rfl
    · exact word_bool false _ w
    · exact word_bool true _ w
  · exact word_text 0 x w
  · exact absurd rfl h4
theorem quo_all (t n : Int) (x : ByteArray) (h : OkV t n x) (h4 : ¬ t = 4) (h0 : -9223372036854775808 ≤ n) (h1 : n ≤ 9223372036854775807) (w : World) (hT : TabW w) :
    Calls Tryd.prog 29 #[.agg #[.int .i64 t, .int .i64 n, .string x]] w fun e w' => e = .returned (.string (qOf t n x)) ∧ Below w.heap.size w w' := by
  by_cases h3 : t = 3
  · subst h3
    rcases h with ⟨h, _⟩ | ⟨h, _⟩ | ⟨_, rfl, hx⟩ | ⟨h, _⟩
    · exact absurd h (by decide)
    · exact absurd h (by decide)
    · exact quoted_text 0 x (by omega) w
    · exact absurd h (by decide)
  · have e : qOf t n x = wOf t n x := by unfold qOf; rw [if_neg h3]
    rw [e]
    exact quoted_other t n x _ h3 w hT (fun w hT => word_all t n x h h4 h0 h1 w hT)

theorem w_ne (t n m : Int) (x y : ByteArray) (h : OkV t n x) (k : OkV t m y) (h4 : ¬ t = 4) (hne : ¬ (n = m ∧ x = y)) : ((wOf t n x).toList == (wOf t m y).toList) = false := by
  unfold OkV at k
  rcases h with ⟨rfl, rfl⟩ | ⟨rfl, rfl, hn⟩ | ⟨rfl, rfl, hx⟩ | ⟨rfl, _⟩
  · have hy : y = { data := #[] } := by rcases k with k | k | k | k <;> simp_all
    subst hy
    show ((numS n).toList == (numS m).toList) = false
    unfold numS
    rw [itoa_beq]
    exact decide_eq_false fun e => hne ⟨e, rfl⟩
  · have hy : y = { data := #[] } ∧ (m = 0 ∨ m = 1) := by rcases k with k | k | k | k <;> simp_all
    obtain ⟨rfl, hm⟩ := hy
    have e : ∀ n : Int, wOf 2 n { data := #[] } = boolS n := fun n => rfl
    rw [e, e]
    rcases hn with rfl | rfl <;> rcases hm with rfl | rfl
    · exact absurd ⟨rfl, rfl⟩ hne
    · exact (boolS_beq false true).trans (by decide)
    · exact (boolS_beq true false).trans (by decide)
    · exact absurd ⟨rfl, rfl⟩ hne
  · have hy : m = 0 := by rcases k with k | k | k | k <;> simp_all
    subst hy
    show (x.toList == y.toList) = false
    exact ne_list fun e => hne ⟨rfl, e⟩
  · exact absurd rfl h4
theorem q_ne (t n m : Int) (x y : ByteArray) (h : OkV t n x) (k : OkV t m y) (h4 : ¬ t = 4) (hne : ¬ (n = m ∧ x = y)) : ((qOf t n x).toList == (qOf t m y).toList) = false := by
  have hw := w_ne t n m x y h k h4 hne
  unfold qOf
  by_cases h3 : t = 3
  · rw [if_pos h3, if_pos h3, quoS_beq]
    subst h3
    exact hw
  · rw [if_neg h3, if_neg h3]
    exact hw

theorem okv_range {t n : Int} {x : ByteArray} (h : OkV t n x) : 1 ≤ t ∧ t ≤ 4 := by
  unfold OkV at h
  omega

theorem text_walk (ta na tb nb : Int) (sa sb : ByteArray) (ha0 : -9223372036854775808 ≤ na) (ha1 : na ≤ 9223372036854775807) (hb0 : -9223372036854775808 ≤ nb) (hb1 : nb ≤ 9223372036854775807) (w : World) (hT : TabW w) :
    Calls Tryd.prog 6 #[.agg #[.int .i64 ta, .int .i64 na, .string sa], .agg #[.int .i64 tb, .int .i64 nb, .string sb]] w fun e w' => e = .returned (.bool true) ∧ Below w.heap.size w w' := by
  obtain ⟨xa, lxa, SA⟩ := short_all ta na sa
  obtain ⟨xb, lxb, SB⟩ := short_all tb nb sb
  obtain ⟨ba, oka, MA⟩ := may_all ta na xa
  obtain ⟨bb, okb, MB⟩ := may_all tb nb xb
  by_cases hl : xa.size + xb.size ≤ 40
  · cases ba with
    | false => exact txt_notA_fits ta na tb nb sa sb xa xb lxa lxb hl SA SB MA w hT
    | true =>
    cases bb with
    | false => exact txt_notB_fits ta na tb nb sa sb xa xb lxa lxb hl SA SB MA MB w hT
    | true =>
    by_cases ht : ta = tb
    · subst ht
      have va := oka.1 rfl
      have vb := okb.1 rfl
      obtain ⟨r1, r4⟩ := okv_range va
      by_cases hn : na = nb
      · subst hn
        by_cases hx : xa = xb
        · subst hx
          have BE : ∀ w, Calls Tryd.prog 13 #[.string { data := #[61, 61] }, .agg #[.int .i64 ta, .int .i64 na, .string xa], .agg #[.int .i64 ta, .int .i64 na, .string xa]] w fun e w' => e = .returned (.tuple #[.agg #[.int .i64 2, .int .i64 1, .string { data := #[] }], .int .i64 0]) ∧ Below w.heap.size w w' := fun w => by
            have h := bin_eq ta na xa xa r1 r4 w
            rw [beq_self_eq_true] at h
            exact h
          have BN : ∀ w, Calls Tryd.prog 13 #[.string { data := #[33, 61] }, .agg #[.int .i64 ta, .int .i64 na, .string xa], .agg #[.int .i64 ta, .int .i64 na, .string xa]] w fun e w' => e = .returned (.tuple #[.agg #[.int .i64 2, .int .i64 0, .string { data := #[] }], .int .i64 0]) ∧ Below w.heap.size w w' := fun w => by
            have h := bin_ne ta na xa xa r1 r4 w
            rw [beq_self_eq_true] at h
            exact h
          by_cases h4 : ta = 4
          · exact txt_eq_fits_list ta na sa sb xa lxa hl h4 SA SB MA BE BN w hT
          · exact txt_eq_fits_other ta na sa sb xa lxa hl (wOf ta na xa) (qOf ta na xa) h4 SA SB MA BE BN (fun w hT => word_all ta na xa va h4 ha0 ha1 w hT) (fun w hT => quo_all ta na xa va h4 ha0 ha1 w hT) w hT
        · have hs := ne_list hx
          have BE : ∀ w, Calls Tryd.prog 13 #[.string { data := #[61, 61] }, .agg #[.int .i64 ta, .int .i64 na, .string xa], .agg #[.int .i64 ta, .int .i64 na, .string xb]] w fun e w' => e = .returned (.tuple #[.agg #[.int .i64 2, .int .i64 0, .string { data := #[] }], .int .i64 0]) ∧ Below w.heap.size w w' := fun w => by
            have h := bin_eq ta na xa xb r1 r4 w
            rw [hs] at h
            exact h
          have BN : ∀ w, Calls Tryd.prog 13 #[.string { data := #[33, 61] }, .agg #[.int .i64 ta, .int .i64 na, .string xa], .agg #[.int .i64 ta, .int .i64 na, .string xb]] w fun e w' => e = .returned (.tuple #[.agg #[.int .i64 2, .int .i64 1, .string { data := #[] }], .int .i64 0]) ∧ Below w.heap.size w w' := fun w => by
            have h := bin_ne ta na xa xb r1 r4 w
            rw [hs] at h
            exact h
          have h4 : ¬ ta = 4 := fun h4 => by
            subst h4
            have e1 : xa = { data := #[] } := by unfold OkV at va; rcases va with va | va | va | va <;> simp_all
            have e2 : xb = { data := #[] } := by unfold OkV at vb; rcases vb with vb | vb | vb | vb <;> simp_all
            exact hx (e1.trans e2.symm)
          have hne : ¬ (na = na ∧ xa = xb) := fun h => hx h.2
          exact txt_neS_fits_other ta na sa sb xa xb lxa lxb hl (wOf ta na xa) (wOf ta na xb) (qOf ta na xa) (qOf ta na xb) hs h4 (w_ne ta na na xa xb va vb h4 hne) (q_ne ta na na xa xb va vb h4 hne) SA SB MA MB BE BN
            (fun w hT => word_all ta na xa va h4 ha0 ha1 w hT) (fun w hT => quo_all ta na xa va h4 ha0 ha1 w hT) (fun w hT => word_all ta na xb vb h4 ha0 ha1 w hT) (fun w hT => quo_all ta na xb vb h4 ha0 ha1 w hT) w hT
      · have hne : ¬ (na = nb ∧ xa = xb) := fun h => hn h.1
        by_cases h4 : ta = 4
        · exact txt_neN_fits_list ta na nb sa sb xa xb lxa lxb hl hn h4 SA SB MA MB (fun w => bin_eqN ta na nb xa xb r1 r4 hn w) (fun w => bin_neN ta na nb xa xb r1 r4 hn w) w hT
        · exact txt_neN_fits_other ta na nb sa sb xa xb lxa lxb hl (wOf ta na xa) (wOf ta nb xb) (qOf ta na xa) (qOf ta nb xb) hn h4 (w_ne ta na nb xa xb va vb h4 hne) (q_ne ta na nb xa xb va vb h4 hne) SA SB MA MB (fun w => bin_eqN ta na nb xa xb r1 r4 hn w) (fun w => bin_neN ta na nb xa xb r1 r4 hn w)
            (fun w hT => word_all ta na xa va h4 ha0 ha1 w hT) (fun w hT => quo_all ta na xa va h4 ha0 ha1 w hT) (fun w hT => word_all ta nb xb vb h4 hb0 hb1 w hT) (fun w hT => quo_all ta nb xb vb h4 hb0 hb1 w hT) w hT
    · exact txt_types_fits ta na tb nb sa sb xa xb lxa lxb hl ht SA SB MA MB w hT
  · replace hl : 40 < xa.size + xb.size := by omega
    cases ba with
    | false => exact txt_notA_long ta na tb nb sa sb xa xb lxa lxb hl SA SB MA w hT
    | true =>
    cases bb with
    | false => exact txt_notB_long ta na tb nb sa sb xa xb lxa lxb hl SA SB MA MB w hT
    | true =>
    by_cases ht : ta = tb
    · subst ht
      have va := oka.1 rfl
      have vb := okb.1 rfl
      obtain ⟨r1, r4⟩ := okv_range va
      by_cases hn : na = nb
      · subst hn
        by_cases hx : xa = xb
        · subst hx
          have BE : ∀ w, Calls Tryd.prog 13 #[.string { data := #[61, 61] }, .agg #[.int .i64 ta, .int .i64 na, .string xa], .agg #[.int .i64 ta, .int .i64 na, .string xa]] w fun e w' => e = .returned (.tuple #[.agg #[.int .i64 2, .int .i64 1, .string { data := #[] }], .int .i64 0]) ∧ Below w.heap.size w w' := fun w => by
            have h := bin_eq ta na xa xa r1 r4 w
            rw [beq_self_eq_true] at h
            exact h
          have BN : ∀ w, Calls Tryd.prog 13 #[.string { data := #[33, 61] }, .agg #[.int .i64 ta, .int .i64 na, .string xa], .agg #[.int .i64 ta, .int .i64 na, .string xa]] w fun e w' => e = .returned (.tuple #[.agg #[.int .i64 2, .int .i64 0, .string { data := #[] }], .int .i64 0]) ∧ Below w.heap.size w w' := fun w => by
            have h := bin_ne ta na xa xa r1 r4 w
            rw [beq_self_eq_true] at h
            exact h
          by_cases h4 : ta = 4
          · exact txt_eq_long_list ta na sa sb xa lxa hl h4 SA SB MA BE BN w hT
          · exact txt_eq_long_other ta na sa sb xa lxa hl (wOf ta na xa) (qOf ta na xa) h4 SA SB MA BE BN (fun w hT => word_all ta na xa va h4 ha0 ha1 w hT) (fun w hT => quo_all ta na xa va h4 ha0 ha1 w hT) w hT
        · have hs := ne_list hx
          have BE : ∀ w, Calls Tryd.prog 13 #[.string { data := #[61, 61] }, .agg #[.int .i64 ta, .int .i64 na, .string xa], .agg #[.int .i64 ta, .int .i64 na, .string xb]] w fun e w' => e = .returned (.tuple #[.agg #[.int .i64 2, .int .i64 0, .string { data := #[] }], .int .i64 0]) ∧ Below w.heap.size w w' := fun w => by
            have h := bin_eq ta na xa xb r1 r4 w
            rw [hs] at h
            exact h
          have BN : ∀ w, Calls Tryd.prog 13 #[.string { data := #[33, 61] }, .agg #[.int .i64 ta, .int .i64 na, .string xa], .agg #[.int .i64 ta, .int .i64 na, .string xb]] w fun e w' => e = .returned (.tuple #[.agg #[.int .i64 2, .int .i64 1, .string { data := #[] }], .int .i64 0]) ∧ Below w.heap.size w w' := fun w => by
            have h := bin_ne ta na xa xb r1 r4 w
            rw [hs] at h
            exact h
          have h4 : ¬ ta = 4 := fun h4 => by
            subst h4
            have e1 : xa = { data := #[] } := by unfold OkV at va; rcases va with va | va | va | va <;> simp_all
            have e2 : xb = { data := #[] } := by unfold OkV at vb; rcases vb with vb | vb | vb | vb <;> simp_all
            exact hx (e1.trans e2.symm)
          have hne : ¬ (na = na ∧ xa = xb) := fun h => hx h.2
          exact txt_neS_long_other ta na sa sb xa xb lxa lxb hl (wOf ta na xa) (wOf ta na xb) (qOf ta na xa) (qOf ta na xb) hs h4 (w_ne ta na na xa xb va vb h4 hne) (q_ne ta na na xa xb va vb h4 hne) SA SB MA MB BE BN
            (fun w hT => word_all ta na xa va h4 ha0 ha1 w hT) (fun w hT => quo_all ta na xa va h4 ha0 ha1 w hT) (fun w hT => word_all ta na xb vb h4 ha0 ha1 w hT) (fun w hT => quo_all ta na xb vb h4 ha0 ha1 w hT) w hT
      · have hne : ¬ (na = nb ∧ xa = xb) := fun h => hn h.1
        by_cases h4 : ta = 4
        · exact txt_neN_long_list ta na nb sa sb xa xb lxa lxb hl hn h4 SA SB MA MB (fun w => bin_eqN ta na nb xa xb r1 r4 hn w) (fun w => bin_neN ta na nb xa xb r1 r4 hn w) w hT
        · exact txt_neN_long_other ta na nb sa sb xa xb lxa lxb hl (wOf ta na xa) (wOf ta nb xb) (qOf ta na xa) (qOf ta nb xb) hn h4 (w_ne ta na nb xa xb va vb h4 hne) (q_ne ta na nb xa xb va vb h4 hne) SA SB MA MB (fun w => bin_eqN ta na nb xa xb r1 r4 hn w) (fun w => bin_neN ta na nb xa xb r1 r4 hn w)
            (fun w hT => word_all ta na xa va h4 ha0 ha1 w hT) (fun w hT => quo_all ta na xa va h4 ha0 ha1 w hT) (fun w hT => word_all ta nb xb vb h4 hb0 hb1 w hT) (fun w hT => quo_all ta nb xb vb h4 hb0 hb1 w hT) w hT
    · exact txt_types_long ta na tb nb sa sb xa xb lxa lxb hl ht SA SB MA MB w hT
end Go.Proofs.YtpighdioomjnmaaDoor.textsof
