/-
  Layer 5: the program's and the document's answers are the same, value by value; the walk of ValueAll. Written by an AI agent.
-/
import Derived.Test.YtpighdioomjnmaaDoorAllB
import Derived.Test.YtpighdioomjnmaaDoorAllD
import Derived.Test.YtpighdioomjnmaaDoorAllF
import Derived.Test.YtpighdioomjnmaaDoorAllW
namespace Go.Proofs.YtpighdioomjnmaaDoor.textsof
open Go.RowKit
set_option linter.unusedVariables false

abbrev BinIs (f : Nat) (g : ByteArray) (ta na : Int) (xa : ByteArray) (tb nb : Int) (xb : ByteArray) (rt rn : Int) (rs : ByteArray) (x : Int) : Prop :=
  ∀ w, Calls Tryd.prog f #[.string g, .agg #[.int .i64 ta, .int .i64 na, .string xa], .agg #[.int .i64 tb, .int .i64 nb, .string xb]] w fun e w' => e = .returned (.tuple #[.agg #[.int .i64 rt, .int .i64 rn, .string rs], .int .i64 x]) ∧ Below w.heap.size w w'
/-- The program and the document tell the same. -/
def Same (g : ByteArray) (ta na : Int) (xa : ByteArray) (tb nb : Int) (xb : ByteArray) : Prop :=
  ∃ (rt rn : Int) (rs : ByteArray) (x : Int), BinIs 13 g ta na xa tb nb xb rt rn rs x ∧ BinIs 14 g ta na xa tb nb xb rt rn rs x
theorem Same.mk {g : ByteArray} {ta na : Int} {xa : ByteArray} {tb nb : Int} {xb : ByteArray} (rt rn : Int) (rs : ByteArray) (x : Int) (h1 : BinIs 13 g ta na xa tb nb xb rt rn rs x) (h2 : BinIs 14 g ta na xa tb nb xb rt rn rs x) : Same g ta na xa tb nb xb := ⟨rt, rn, rs, x, h1, h2⟩

theorem same_add (ta na tb nb : Int) (xa xb : ByteArray) (hla : xa.size ≤ 60) (hlb : xb.size ≤ 60) : Same ({ data := #[43] }) ta na xa tb nb xb := by
  by_cases ht : ta = tb
  · subst ht
    by_cases lo : ta < 1
    · exact Same.mk 0 (0) { data := #[] } 0 (fun w => cbin_out_add ta na nb xa xb (Or.inl lo) w) (fun w => rbin_lo _ ta na nb xa xb lo w)
    by_cases hi : 4 < ta
    · exact Same.mk 0 (0) { data := #[] } 0 (fun w => cbin_out_add ta na nb xa xb (Or.inr hi) w) (fun w => rbin_hi _ ta na nb xa xb hi w)
    have h4 : ta = 1 ∨ ta = 2 ∨ ta = 3 ∨ ta = 4 := by omega
    rcases h4 with rfl | rfl | rfl | rfl
    · exact Same.mk 1 (wrap64 (na + nb)) { data := #[] } 0 (fun w => cbin1_add na nb xa xb w) (fun w => rbin1_add na nb xa xb w)
    · exact Same.mk 0 (0) { data := #[] } 0 (fun w => bin2_add na nb xa xb w) (fun w => rbin2_add na nb xa xb w)
    · by_cases hl : xa.size + xb.size ≤ 40
      · exact Same.mk 3 (0) (xa ++ xb) 0 (fun w => cbin_plus na nb xa xb hla hlb hl w) (fun w => rbin_plus na nb xa xb hla hlb hl w)
      · exact Same.mk 0 (0) { data := #[] } 6 (fun w => cbin_long na nb xa xb hla hlb (by omega) w) (fun w => rbin_long na nb xa xb hla hlb (by omega) w)
    · exact Same.mk 0 (0) { data := #[] } 0 (fun w => bin4_add na nb xa xb w) (fun w => rbin4_add na nb xa xb w)
  · exact Same.mk 0 (0) { data := #[] } 0 (fun w => bin_types _ ta tb na nb xa xb ht w) (fun w => rbin_types _ ta tb na nb xa xb ht w)

theorem same_sub (ta na tb nb : Int) (xa xb : ByteArray) (hla : xa.size ≤ 60) (hlb : xb.size ≤ 60) : Same ({ data := #[45] }) ta na xa tb nb xb := by
  by_cases ht : ta = tb
  · subst ht
    by_cases lo : ta < 1
    · exact Same.mk 0 (0) { data := #[] } 0 (fun w => cbin_out_sub ta na nb xa xb (Or.inl lo) w) (fun w => rbin_lo _ ta na nb xa xb lo w)
    by_cases hi : 4 < ta
    · exact Same.mk 0 (0) { data := #[] } 0 (fun w => cbin_out_sub ta na nb xa xb (Or.inr hi) w) (fun w => rbin_hi _ ta na nb xa xb hi w)
    have h4 : ta = 1 ∨ ta = 2 ∨ ta = 3 ∨ ta = 4 := by omega
    rcases h4 with rfl | rfl | rfl | rfl
    · exact Same.mk 1 (wrap64 (na - nb)) { data := #[] } 0 (fun w => cbin1_sub na nb xa xb w) (fun w => rbin1_sub na nb xa xb w)
    · exact Same.mk 0 (0) { data := #[] } 0 (fun w => bin2_sub na nb xa xb w) (fun w => rbin2_sub na nb xa xb w)
    · exact Same.mk 0 (0) { data := #[] } 0 (fun w => bin3_sub na nb xa xb w) (fun w => rbin3_sub na nb xa xb w)
    · exact Same.mk 0 (0) { data := #[] } 0 (fun w => bin4_sub na nb xa xb w) (fun w => rbin4_sub na nb xa xb w)
  · exact Same.mk 0 (0) { data := #[] } 0 (fun w => bin_types _ ta tb na nb xa xb ht w) (fun w => rbin_types _ ta tb na nb xa xb ht w)

theorem same_mul (ta na tb nb : Int) (xa xb : ByteArray) (hla : xa.size ≤ 60) (hlb : xb.size ≤ 60) : Same ({ data := #[42] }) ta na xa tb nb xb := by
  by_cases ht : ta = tb
  · subst ht
    by_cases lo : ta < 1
    · exact Same.mk 0 (0) { data := #[] } 0 (fun w => cbin_out_mul ta na nb xa xb (Or.inl lo) w) (fun w => rbin_lo _ ta na nb xa xb lo w)
    by_cases hi : 4 < ta
    · exact Same.mk 0 (0) { data := #[] } 0 (fun w => cbin_out_mul ta na nb xa xb (Or.inr hi) w) (fun w => rbin_hi _ ta na nb xa xb hi w)
    have h4 : ta = 1 ∨ ta = 2 ∨ ta = 3 ∨ ta = 4 := by omega
    rcases h4 with rfl | rfl | rfl | rfl
    · exact Same.mk 1 (wrap64 (na * nb)) { data := #[] } 0 (fun w => cbin1_mul na nb xa xb w) (fun w => rbin1_mul na nb xa xb w)
    · exact Same.mk 0 (0) { data := #[] } 0 (fun w => bin2_mul na nb xa xb w) (fun w => rbin2_mul na nb xa xb w)
    · exact Same.mk 0 (0) { data := #[] } 0 (fun w => bin3_mul na nb xa xb w) (fun w => rbin3_mul na nb xa xb w)
    · exact Same.mk 0 (0) { data := #[] } 0 (fun w => bin4_mul na nb xa xb w) (fun w => rbin4_mul na nb xa xb w)
  · exact Same.mk 0 (0) { data := #[] } 0 (fun w => bin_types _ ta tb na nb xa xb ht w) (fun w => rbin_types _ ta tb na nb xa xb ht w)

theorem same_quo (ta na tb nb : Int) (xa xb : ByteArray) (hla : xa.size ≤ 60) (hlb : xb.size ≤ 60) : Same ({ data := #[47] }) ta na xa tb nb xb := by
  by_cases ht : ta = tb
  · subst ht
    by_cases lo : ta < 1
    · exact Same.mk 0 (0) { data := #[] } 0 (fun w => cbin_out_quo ta na nb xa xb (Or.inl lo) w) (fun w => rbin_lo _ ta na nb xa xb lo w)
    by_cases hi : 4 < ta
    · exact Same.mk 0 (0) { data := #[] } 0 (fun w => cbin_out_quo ta na nb xa xb (Or.inr hi) w) (fun w => rbin_hi _ ta na nb xa xb hi w)
    have h4 : ta = 1 ∨ ta = 2 ∨ ta = 3 ∨ ta = 4 := by omega
    rcases h4 with rfl | rfl | rfl | rfl
    · by_cases h0 : nb = 0
      · subst h0
        exact Same.mk 0 (0) { data := #[] } 1 (fun w => cbin1_quo0 na xa xb w) (fun w => rbin1_quo0 na xa xb w)
      · exact Same.mk 1 (wrap64 (na.tdiv nb)) { data := #[] } 0 (fun w => cbin1_quo na nb xa xb h0 w) (fun w => rbin1_quo na nb xa xb h0 w)
    · exact Same.mk 0 (0) { data := #[] } 0 (fun w => bin2_quo na nb xa xb w) (fun w => rbin2_quo na nb xa xb w)
    · exact Same.mk 0 (0) { data := #[] } 0 (fun w => bin3_quo na nb xa xb w) (fun w => rbin3_quo na nb xa xb w)
    · exact Same.mk 0 (0) { data := #[] } 0 (fun w => bin4_quo na nb xa xb w) (fun w => rbin4_quo na nb xa xb w)
  · exact Same.mk 0 (0) { data := #[] } 0 (fun w => bin_types _ ta tb na nb xa xb ht w) (fun w => rbin_types _ ta tb na nb xa xb ht w)

theorem same_rem (ta na tb nb : Int) (xa xb : ByteArray) (hla : xa.size ≤ 60) (hlb : xb.size ≤ 60) : Same ({ data := #[37] }) ta na xa tb nb xb := by
  by_cases ht : ta = tb
  · subst ht
    by_cases lo : ta < 1
    · exact Same.mk 0 (0) { data := #[] } 0 (fun w => cbin_out_rem ta na nb xa xb (Or.inl lo) w) (fun w => rbin_lo _ ta na nb xa xb lo w)
    by_cases hi : 4 < ta
    · exact Same.mk 0 (0) { data := #[] } 0 (fun w => cbin_out_rem ta na nb xa xb (Or.inr hi) w) (fun w => rbin_hi _ ta na nb xa xb hi w)
    have h4 : ta = 1 ∨ ta = 2 ∨ ta = 3 ∨ ta = 4 := by omega
    rcases h4 with rfl | rfl | rfl | rfl
    · by_cases h0 : nb = 0
      · subst h0
        exact Same.mk 0 (0) { data := #[] } 1 (fun w => cbin1_rem0 na xa xb w) (fun w => rbin1_rem0 na xa xb w)
      · exact Same.mk 1 (na.tmod nb) { data := #[] } 0 (fun w => cbin1_rem na nb xa xb h0 w) (fun w => rbin1_rem na nb xa xb h0 w)
    · exact Same.mk 0 (0) { data := #[] } 0 (fun w => bin2_rem na nb xa xb w) (fun w => rbin2_rem na nb xa xb w)
    · exact Same.mk 0 (0) { data := #[] } 0 (fun w => bin3_rem na nb xa xb w) (fun w => rbin3_rem na nb xa xb w)
    · exact Same.mk 0 (0) { data := #[] } 0 (fun w => bin4_rem na nb xa xb w) (fun w => rbin4_rem na nb xa xb w)
  · exact Same.mk 0 (0) { data := #[] } 0 (fun w => bin_types _ ta tb na nb xa xb ht w) (fun w => rbin_types _ ta tb na nb xa xb ht w)

theorem same_lss (ta na tb nb : Int) (xa xb : ByteArray) (hla : xa.size ≤ 60) (hlb : xb.size ≤ 60) : Same ({ data := #[60] }) ta na xa tb nb xb := by
  by_cases ht : ta = tb
  · subst ht
    by_cases lo : ta < 1
    · exact Same.mk 0 (0) { data := #[] } 0 (fun w => cbin_out_lss ta na nb xa xb (Or.inl lo) w) (fun w => rbin_lo _ ta na nb xa xb lo w)
    by_cases hi : 4 < ta
    · exact Same.mk 0 (0) { data := #[] } 0 (fun w => cbin_out_lss ta na nb xa xb (Or.inr hi) w) (fun w => rbin_hi _ ta na nb xa xb hi w)
    have h4 : ta = 1 ∨ ta = 2 ∨ ta = 3 ∨ ta = 4 := by omega
    rcases h4 with rfl | rfl | rfl | rfl
    · exact Same.mk 2 (bN (decide (na < nb))) { data := #[] } 0 (fun w => cbin1_lss na nb xa xb w) (fun w => rbin1_lss na nb xa xb w)
    · exact Same.mk 0 (0) { data := #[] } 0 (fun w => bin2_lss na nb xa xb w) (fun w => rbin2_lss na nb xa xb w)
    · exact Same.mk 0 (0) { data := #[] } 0 (fun w => bin3_lss na nb xa xb w) (fun w => rbin3_lss na nb xa xb w)
    · exact Same.mk 0 (0) { data := #[] } 0 (fun w => bin4_lss na nb xa xb w) (fun w => rbin4_lss na nb xa xb w)
  · exact Same.mk 0 (0) { data := #[] } 0 (fun w => bin_types _ ta tb na nb xa xb ht w) (fun w => rbin_types _ ta tb na nb xa xb ht w)

theorem same_leq (ta na tb nb : Int) (xa xb : ByteArray) (hla : xa.size ≤ 60) (hlb : xb.size ≤ 60) : Same ({ data := #[60, 61] }) ta na xa tb nb xb := by
  by_cases ht : ta = tb
  · subst ht
    by_cases lo : ta < 1
    · exact Same.mk 0 (0) { data := #[] } 0 (fun w => cbin_out_leq ta na nb xa xb (Or.inl lo) w) (fun w => rbin_lo _ ta na nb xa xb lo w)
    by_cases hi : 4 < ta
    · exact Same.mk 0 (0) { data := #[] } 0 (fun w => cbin_out_leq ta na nb xa xb (Or.inr hi) w) (fun w => rbin_hi _ ta na nb xa xb hi w)
    have h4 : ta = 1 ∨ ta = 2 ∨ ta = 3 ∨ ta = 4 := by omega
    rcases h4 with rfl | rfl | rfl | rfl
    · exact Same.mk 2 (bN (decide (na ≤ nb))) { data := #[] } 0 (fun w => cbin1_leq na nb xa xb w) (fun w => rbin1_leq na nb xa xb w)
    · exact Same.mk 0 (0) { data := #[] } 0 (fun w => bin2_leq na nb xa xb w) (fun w => rbin2_leq na nb xa xb w)
    · exact Same.mk 0 (0) { data := #[] } 0 (fun w => bin3_leq na nb xa xb w) (fun w => rbin3_leq na nb xa xb w)
    · exact Same.mk 0 (0) { data := #[] } 0 (fun w => bin4_leq na nb xa xb w) (fun w => rbin4_leq na nb xa xb w)
  · exact Same.mk 0 (0) { data := #[] } 0 (fun w => bin_types _ ta tb na nb xa xb ht w) (fun w => rbin_types _ ta tb na nb xa xb ht w)

theorem same_eq (ta na tb nb : Int) (xa xb : ByteArray) (hla : xa.size ≤ 60) (hlb : xb.size ≤ 60) : Same ({ data := #[61, 61] }) ta na xa tb nb xb := by
  by_cases ht : ta = tb
  · subst ht
    by_cases lo : ta < 1
    · exact Same.mk 0 (0) { data := #[] } 0 (fun w => cbin_lo_eq ta na nb xa xb lo w) (fun w => rbin_lo _ ta na nb xa xb lo w)
    by_cases hi : 4 < ta
    · exact Same.mk 0 (0) { data := #[] } 0 (fun w => cbin_hi_eq ta na nb xa xb hi w) (fun w => rbin_hi _ ta na nb xa xb hi w)
    by_cases hn : na = nb
    · subst hn
      exact Same.mk 2 (bN ((xa.toList == xb.toList))) { data := #[] } 0 (fun w => bin_eq ta na xa xb (by omega) (by omega) w) (fun w => rbin_eq ta na xa xb (by omega) (by omega) w)
    · exact Same.mk 2 (bN (false)) { data := #[] } 0 (fun w => bin_eqN ta na nb xa xb (by omega) (by omega) hn w) (fun w => rbin_eqN ta na nb xa xb (by omega) (by omega) hn w)
  · exact Same.mk 0 (0) { data := #[] } 0 (fun w => bin_types _ ta tb na nb xa xb ht w) (fun w => rbin_types _ ta tb na nb xa xb ht w)

theorem same_ne (ta na tb nb : Int) (xa xb : ByteArray) (hla : xa.size ≤ 60) (hlb : xb.size ≤ 60) : Same ({ data := #[33, 61] }) ta na xa tb nb xb := by
  by_cases ht : ta = tb
  · subst ht
    by_cases lo : ta < 1
    · exact Same.mk 0 (0) { data := #[] } 0 (fun w => cbin_lo_ne ta na nb xa xb lo w) (fun w => rbin_lo _ ta na nb xa xb lo w)
    by_cases hi : 4 < ta
    · exact Same.mk 0 (0) { data := #[] } 0 (fun w => cbin_hi_ne ta na nb xa xb hi w) (fun w => rbin_hi _ ta na nb xa xb hi w)
    by_cases hn : na = nb
    · subst hn
      exact Same.mk 2 (bN (!(xa.toList == xb.toList))) { data := #[] } 0 (fun w => bin_ne ta na xa xb (by omega) (by omega) w) (fun w => rbin_ne ta na xa xb (by omega) (by omega) w)
    · exact Same.mk 2 (bN (!false)) { data := #[] } 0 (fun w => bin_neN ta na nb xa xb (by omega) (by omega) hn w) (fun w => rbin_neN ta na nb xa xb (by omega) (by omega) hn w)
  · exact Same.mk 0 (0) { data := #[] } 0 (fun w => bin_types _ ta tb na nb xa xb ht w) (fun w => rbin_types _ ta tb na nb xa xb ht w)

theorem same_or (ta na tb nb : Int) (xa xb : ByteArray) (hla : xa.size ≤ 60) (hlb : xb.size ≤ 60) : Same ({ data := #[124, 124] }) ta na xa tb nb xb := by
  by_cases ht : ta = tb
  · subst ht
    by_cases lo : ta < 1
    · exact Same.mk 0 (0) { data := #[] } 0 (fun w => cbin_out_or ta na nb xa xb (Or.inl lo) w) (fun w => rbin_lo _ ta na nb xa xb lo w)
    by_cases hi : 4 < ta
    · exact Same.mk 0 (0) { data := #[] } 0 (fun w => cbin_out_or ta na nb xa xb (Or.inr hi) w) (fun w => rbin_hi _ ta na nb xa xb hi w)
    have h4 : ta = 1 ∨ ta = 2 ∨ ta = 3 ∨ ta = 4 := by omega
    rcases h4 with rfl | rfl | rfl | rfl
    · exact Same.mk 0 (0) { data := #[] } 0 (fun w => bin1_or na nb xa xb w) (fun w => rbin1_or na nb xa xb w)
    · by_cases h1 : na = 1
      · subst h1
        by_cases h2 : nb = 1
        · subst h2
          exact Same.mk 2 (1) { data := #[] } 0 (fun w => cbin2_or11 xa xb w) (fun w => rbin2_or11 xa xb w)
        · exact Same.mk 2 (1) { data := #[] } 0 (fun w => cbin2_or10 nb xa xb h2 w) (fun w => rbin2_or10 nb xa xb h2 w)
      · by_cases h2 : nb = 1
        · subst h2
          exact Same.mk 2 (1) { data := #[] } 0 (fun w => cbin2_or01 na xa xb h1 w) (fun w => rbin2_or01 na xa xb h1 w)
        · exact Same.mk 2 (0) { data := #[] } 0 (fun w => cbin2_or00 na nb xa xb h1 h2 w) (fun w => rbin2_or00 na nb xa xb h1 h2 w)
    · exact Same.mk 0 (0) { data := #[] } 0 (fun w => bin3_or na nb xa xb w) (fun w => rbin3_or na nb xa xb w)
    · exact Same.mk 0 (0) { data := #[] } 0 (fun w => bin4_or na nb xa xb w) (fun w => rbin4_or na nb xa xb w)
  · exact Same.mk 0 (0) { data := #[] } 0 (fun w => bin_types _ ta tb na nb xa xb ht w) (fun w => rbin_types _ ta tb na nb xa xb ht w)

theorem same_and (ta na tb nb : Int) (xa xb : ByteArray) (hla : xa.size ≤ 60) (hlb : xb.size ≤ 60) : Same ({ data := #[38, 38] }) ta na xa tb nb xb := by
  by_cases ht : ta = tb
  · subst ht
    by_cases lo : ta < 1
    · exact Same.mk 0 (0) { data := #[] } 0 (fun w => cbin_out_and ta na nb xa xb (Or.inl lo) w) (fun w => rbin_lo _ ta na nb xa xb lo w)
    by_cases hi : 4 < ta
    · exact Same.mk 0 (0) { data := #[] } 0 (fun w => cbin_out_and ta na nb xa xb (Or.inr hi) w) (fun w => rbin_hi _ ta na nb xa xb hi w)
    have h4 : ta = 1 ∨ ta = 2 ∨ ta = 3 ∨ ta = 4 := by omega
    rcases h4 with rfl | rfl | rfl | rfl
    · exact Same.mk 0 (0) { data := #[] } 0 (fun w => bin1_and na nb xa xb w) (fun w => rbin1_and na nb xa xb w)
    · by_cases h1 : na = 1
      · subst h1
        by_cases h2 : nb = 1
        · subst h2
          exact Same.mk 2 (1) { data := #[] } 0 (fun w => cbin2_and11 xa xb w) (fun w => rbin2_and11 xa xb w)
        · exact Same.mk 2 (0) { data := #[] } 0 (fun w => cbin2_and10 nb xa xb h2 w) (fun w => rbin2_and10 nb xa xb h2 w)
      · by_cases h2 : nb = 1
        · subst h2
          exact Same.mk 2 (0) { data := #[] } 0 (fun w => cbin2_and01 na xa xb h1 w) (fun w => rbin2_and01 na xa xb h1 w)
        · exact Same.mk 2 (0) { data := #[] } 0 (fun w => cbin2_and00 na nb xa xb h1 h2 w) (fun w => rbin2_and00 na nb xa xb h1 h2 w)
    · exact Same.mk 0 (0) { data := #[] } 0 (fun w => bin3_and na nb xa xb w) (fun w => rbin3_and na nb xa xb w)
    · exact Same.mk 0 (0) { data := #[] } 0 (fun w => bin4_and na nb xa xb w) (fun w => rbin4_and na nb xa xb w)
  · exact Same.mk 0 (0) { data := #[] } 0 (fun w => bin_types _ ta tb na nb xa xb ht w) (fun w => rbin_types _ ta tb na nb xa xb ht w)

theorem same_not (ta na tb nb : Int) (xa xb : ByteArray) (hla : xa.size ≤ 60) (hlb : xb.size ≤ 60) : Same ({ data := #[33] }) ta na xa tb nb xb := by
  by_cases ht : ta = tb
  · subst ht
    by_cases lo : ta < 1
    · exact Same.mk 0 (0) { data := #[] } 0 (fun w => cbin_out_not ta na nb xa xb (Or.inl lo) w) (fun w => rbin_lo _ ta na nb xa xb lo w)
    by_cases hi : 4 < ta
    · exact Same.mk 0 (0) { data := #[] } 0 (fun w => cbin_out_not ta na nb xa xb (Or.inr hi) w) (fun w => rbin_hi _ ta na nb xa xb hi w)
    have h4 : ta = 1 ∨ ta = 2 ∨ ta = 3 ∨ ta = 4 := by omega
    rcases h4 with rfl | rfl | rfl | rfl
    · exact Same.mk 0 (0) { data := #[] } 0 (fun w => bin1_not na nb xa xb w) (fun w => rbin1_not na nb xa xb w)
    · exact Same.mk 0 (0) { data := #[] } 0 (fun w => bin2_not na nb xa xb w) (fun w => rbin2_not na nb xa xb w)
    · exact Same.mk 0 (0) { data := #[] } 0 (fun w => bin3_not na nb xa xb w) (fun w => rbin3_not na nb xa xb w)
    · exact Same.mk 0 (0) { data := #[] } 0 (fun w => bin4_not na nb xa xb w) (fun w => rbin4_not na nb xa xb w)
  · exact Same.mk 0 (0) { data := #[] } 0 (fun w => bin_types _ ta tb na nb xa xb ht w) (fun w => rbin_types _ ta tb na nb xa xb ht w)

theorem same_ask (ta na tb nb : Int) (xa xb : ByteArray) (hla : xa.size ≤ 60) (hlb : xb.size ≤ 60) : Same ({ data := #[63] }) ta na xa tb nb xb := by
  by_cases ht : ta = tb
  · subst ht
    by_cases lo : ta < 1
    · exact Same.mk 0 (0) { data := #[] } 0 (fun w => cbin_out_ask ta na nb xa xb (Or.inl lo) w) (fun w => rbin_lo _ ta na nb xa xb lo w)
    by_cases hi : 4 < ta
    · exact Same.mk 0 (0) { data := #[] } 0 (fun w => cbin_out_ask ta na nb xa xb (Or.inr hi) w) (fun w => rbin_hi _ ta na nb xa xb hi w)
    have h4 : ta = 1 ∨ ta = 2 ∨ ta = 3 ∨ ta = 4 := by omega
    rcases h4 with rfl | rfl | rfl | rfl
    · exact Same.mk 0 (0) { data := #[] } 0 (fun w => bin1_ask na nb xa xb w) (fun w => rbin1_ask na nb xa xb w)
    · exact Same.mk 0 (0) { data := #[] } 0 (fun w => bin2_ask na nb xa xb w) (fun w => rbin2_ask na nb xa xb w)
    · exact Same.mk 0 (0) { data := #[] } 0 (fun w => bin3_ask na nb xa xb w) (fun w => rbin3_ask na nb xa xb w)
    · exact Same.mk 0 (0) { data := #[] } 0 (fun w => bin4_ask na nb xa xb w) (fun w => rbin4_ask na nb xa xb w)
  · exact Same.mk 0 (0) { data := #[] } 0 (fun w => bin_types _ ta tb na nb xa xb ht w) (fun w => rbin_types _ ta tb na nb xa xb ht w)

abbrev SignIs (f : Nat) (g : ByteArray) (ta na : Int) (xa : ByteArray) (gt gn : Int) (gs : ByteArray) : Prop :=
  ∀ w, Calls Tryd.prog f #[.string g, .agg #[.int .i64 ta, .int .i64 na, .string xa]] w fun e w' => e = .returned (.agg #[.int .i64 gt, .int .i64 gn, .string gs]) ∧ Below w.heap.size w w'
def SameS (g : ByteArray) (ta na : Int) (xa : ByteArray) : Prop := ∃ (gt gn : Int) (gs : ByteArray), SignIs 23 g ta na xa gt gn gs ∧ SignIs 24 g ta na xa gt gn gs
theorem SameS.mk {g : ByteArray} {ta na : Int} {xa : ByteArray} (gt gn : Int) (gs : ByteArray) (h1 : SignIs 23 g ta na xa gt gn gs) (h2 : SignIs 24 g ta na xa gt gn gs) : SameS g ta na xa := ⟨gt, gn, gs, h1, h2⟩

theorem sames_add (ta na : Int) (xa : ByteArray) : SameS ({ data := #[43] }) ta na xa := by
  exact SameS.mk 0 (0) { data := #[] } (fun w => csign_add ta na xa w) (fun w => rsign_add ta na xa w)

theorem sames_sub (ta na : Int) (xa : ByteArray) : SameS ({ data := #[45] }) ta na xa := by
  by_cases h : ta = 1
  · subst h
    exact SameS.mk 1 (wrap64 (-na)) { data := #[] } (fun w => csign_sub1 na xa w) (fun w => rsign_sub1 na xa w)
  · exact SameS.mk 0 (0) { data := #[] } (fun w => csign_sub ta na xa h w) (fun w => rsign_sub ta na xa h w)

theorem sames_mul (ta na : Int) (xa : ByteArray) : SameS ({ data := #[42] }) ta na xa := by
  exact SameS.mk 0 (0) { data := #[] } (fun w => csign_mul ta na xa w) (fun w => rsign_mul ta na xa w)

theorem sames_quo (ta na : Int) (xa : ByteArray) : SameS ({ data := #[47] }) ta na xa := by
  exact SameS.mk 0 (0) { data := #[] } (fun w => csign_quo ta na xa w) (fun w => rsign_quo ta na xa w)

theorem sames_rem (ta na : Int) (xa : ByteArray) : SameS ({ data := #[37] }) ta na xa := by
  exact SameS.mk 0 (0) { data := #[] } (fun w => csign_rem ta na xa w) (fun w => rsign_rem ta na xa w)

theorem sames_lss (ta na : Int) (xa : ByteArray) : SameS ({ data := #[60] }) ta na xa := by
  exact SameS.mk 0 (0) { data := #[] } (fun w => csign_lss ta na xa w) (fun w => rsign_lss ta na xa w)

theorem sames_leq (ta na : Int) (xa : ByteArray) : SameS ({ data := #[60, 61] }) ta na xa := by
  exact SameS.mk 0 (0) { data := #[] } (fun w => csign_leq ta na xa w) (fun w => rsign_leq ta na xa w)

theorem sames_eq (ta na : Int) (xa : ByteArray) : SameS ({ data := #[61, 61] }) ta na xa := by
  exact SameS.mk 0 (0) { data := #[] } (fun w => csign_eq ta na xa w) (fun w => rsign_eq ta na xa w)

theorem sames_ne (ta na : Int) (xa : ByteArray) : SameS ({ data := #[33, 61] }) ta na xa := by
  exact SameS.mk 0 (0) { data := #[] } (fun w => csign_ne ta na xa w) (fun w => rsign_ne ta na xa w)

theorem sames_or (ta na : Int) (xa : ByteArray) : SameS ({ data := #[124, 124] }) ta na xa := by
  exact SameS.mk 0 (0) { data := #[] } (fun w => csign_or ta na xa w) (fun w => rsign_or ta na xa w)

theorem sames_and (ta na : Int) (xa : ByteArray) : SameS ({ data := #[38, 38] }) ta na xa := by
  exact SameS.mk 0 (0) { data := #[] } (fun w => csign_and ta na xa w) (fun w => rsign_and ta na xa w)

theorem sames_not (ta na : Int) (xa : ByteArray) : SameS ({ data := #[33] }) ta na xa := by
  by_cases h : ta = 2
  · subst h
    by_cases h1 : na = 1
    · subst h1
      exact SameS.mk 2 (0) { data := #[] } (fun w => csign_not21 xa w) (fun w => rsign_not21 xa w)
    · exact SameS.mk 2 (1) { data := #[] } (fun w => csign_not20 na xa h1 w) (fun w => rsign_not20 na xa h1 w)
  · exact SameS.mk 0 (0) { data := #[] } (fun w => csign_not ta na xa h w) (fun w => rsign_not ta na xa h w)

theorem sames_ask (ta na : Int) (xa : ByteArray) : SameS ({ data := #[63] }) ta na xa := by
  exact SameS.mk 0 (0) { data := #[] } (fun w => csign_ask ta na xa w) (fun w => rsign_ask ta na xa w)

theorem rmay_all (t n : Int) (x : ByteArray) : ∃ b : Bool, (b = true ↔ OkV t n x) ∧ ∀ w, Calls Tryd.prog 26 #[.agg #[.int .i64 t, .int .i64 n, .string x]] w fun e w' => e = .returned (.bool b) ∧ Below w.heap.size w w' := by
  have em : x = { data := #[] } → x.toList.isEmpty = true := fun h => by rw [h]; exact emptyL
  by_cases h1 : t = 1
  · subst h1
    exact ⟨_, ⟨fun h => Or.inl ⟨rfl, empty_of h⟩, fun h => by unfold OkV at h; exact em (by rcases h with h | h | h | h <;> simp_all)⟩, fun w => rmay_int n x w⟩
  by_cases h2 : t = 2
  · subst h2
    cases hx : x.toList.isEmpty with
    | false =>
      refine ⟨false, ⟨(fun h => by cases h), fun h => ?_⟩, fun w => rmay_boolS n x hx w⟩
      unfold OkV at h
      have : x = { data := #[] } := by rcases h with h | h | h | h <;> simp_all
      rw [em this] at hx
      cases hx
    | true =>
      have hE := empty_of hx
      subst hE
      by_cases a : n = 0
      · subst a
        exact ⟨true, ⟨fun _ => Or.inr (Or.inl ⟨rfl, rfl, Or.inl rfl⟩), fun _ => rfl⟩, fun w => rmay_bool0 w⟩
      by_cases b : n = 1
      · subst b
        exact ⟨true, ⟨fun _ => Or.inr (Or.inl ⟨rfl, rfl, Or.inr rfl⟩), fun _ => rfl⟩, fun w => rmay_bool1 w⟩
      exact ⟨false, ⟨(fun h => by cases h), fun h => by unfold OkV at h; exfalso; omega⟩, fun w => rmay_boolN n a b w⟩
  by_cases h3 : t = 3
  · subst h3
    by_cases a : n = 0
    · subst a
      exact ⟨_, ⟨fun h => Or.inr (Or.inr (Or.inl ⟨rfl, rfl, by have := of_decide_eq_true h; omega⟩)), fun h => by unfold OkV at h; exact decide_eq_true (by omega)⟩, fun w => rmay_text x w⟩
    · exact ⟨false, ⟨(fun h => by cases h), fun h => by unfold OkV at h; exfalso; omega⟩, fun w => rmay_textN n x a w⟩
  by_cases h4 : t = 4
  · subst h4
    cases hx : x.toList.isEmpty with
    | false =>
      refine ⟨false, ⟨(fun h => by cases h), fun h => ?_⟩, fun w => rmay_listS n x hx w⟩
      unfold OkV at h
      have : x = { data := #[] } := by rcases h with h | h | h | h <;> simp_all
      rw [em this] at hx
      cases hx
    | true =>
      have hE := empty_of hx
      subst hE
      by_cases a : 0 ≤ n
      · exact ⟨true, ⟨fun _ => Or.inr (Or.inr (Or.inr ⟨rfl, rfl, a⟩)), fun _ => rfl⟩, fun w => rmay_list n a w⟩
      · exact ⟨false, ⟨(fun h => by cases h), fun h => by unfold OkV at h; exfalso; omega⟩, fun w => rmay_listL n a w⟩
  exact ⟨false, ⟨(fun h => by cases h), fun h => by unfold OkV at h; exfalso; omega⟩, fun w => rmay_none t n x h1 h2 h3 h4 w⟩

theorem may_same (t n : Int) (x : ByteArray) : ∃ b : Bool, MayIs t n x b ∧ ∀ w, Calls Tryd.prog 26 #[.agg #[.int .i64 t, .int .i64 n, .string x]] w fun e w' => e = .returned (.bool b) ∧ Below w.heap.size w w' := by
  obtain ⟨b, h1, h2⟩ := may_all t n x
  obtain ⟨c, k1, k2⟩ := rmay_all t n x
  have e : b = c := Bool.eq_iff_iff.2 (h1.trans k1.symm)
  subst e
  exact ⟨b, h2, k2⟩

/-- What whatever value is printed as. -/
def wO (t n : Int) (x : ByteArray) : ByteArray := if t = 1 then numS n else if t = 2 then (if n = 1 then { data := #[116, 114, 117, 101] } else { data := #[102, 97, 108, 115, 101] }) else if t = 3 then x else if t = 4 then { data := #[108, 105, 115, 116] } else { data := #[] }
def qO (t n : Int) (x : ByteArray) : ByteArray := if t = 3 then quoS x else wO t n x

theorem cword_all (t n : Int) (x : ByteArray) (h0 : -9223372036854775808 ≤ n) (h1 : n ≤ 9223372036854775807) (w : World) (hT : TabW w) :
    Calls Tryd.prog 27 #[.agg #[.int .i64 t, .int .i64 n, .string x]] w fun e w' => e = .returned (.string (wO t n x)) ∧ Below w.heap.size w w' := by
  by_cases t1 : t = 1
  · subst t1
    exact word_int n x h0 h1 w hT
  by_cases t2 : t = 2
  · subst t2
    by_cases hn : n = 1
    · subst hn
      exact cword_true x w
    · have e : wO 2 n x = { data := #[102, 97, 108, 115, 101] } := by unfold wO; rw [if_neg (by decide), if_pos rfl, if_neg hn]
      rw [e]
      exact cword_false n x hn w
  by_cases t3 : t = 3
  · subst t3
    exact cword_text n x w
  by_cases t4 : t = 4
  · subst t4
    exact cword_list n x w
  have e : wO t n x = { data := #[] } := by unfold wO; rw [if_neg t1, if_neg t2, if_neg t3, if_neg t4]
  rw [e]
  exact cword_none t n x t1 t2 t3 t4 w

theorem rword_all (t n : Int) (x : ByteArray) (h0 : -9223372036854775808 ≤ n) (h1 : n ≤ 9223372036854775807) (w : World) (hT : TabW w) :
    Calls Tryd.prog 28 #[.agg #[.int .i64 t, .int .i64 n, .string x]] w fun e w' => e = .returned (.string (wO t n x)) ∧ Below w.heap.size w w' := by
  by_cases t1 : t = 1
  · subst t1
    exact rword_int n x h0 h1 w hT
  by_cases t2 : t = 2
  · subst t2
    by_cases hn : n = 1
    · subst hn
      exact rword_true x w
    · have e : wO 2 n x = { data := #[102, 97, 108, 115, 101] } := by unfold wO; rw [if_neg (by decide), if_pos rfl, if_neg hn]
      rw [e]
      exact rword_false n x hn w
  by_cases t3 : t = 3
  · subst t3
    exact rword_text n x w
  by_cases t4 : t = 4
  · subst t4
    exact rword_list n x w
  have e : wO t n x = { data := #[] } := by unfold wO; rw [if_neg t1, if_neg t2, if_neg t3, if_neg t4]
  rw [e]
  exact rword_none t n x t1 t2 t3 t4 w

theorem cquo_all (t n : Int) (x : ByteArray) (hx : x.size ≤ 60) (h0 : -9223372036854775808 ≤ n) (h1 : n ≤ 9223372036854775807) (w : World) (hT : TabW w) :
    Calls Tryd.prog 29 #[.agg #[.int .i64 t, .int .i64 n, .string x]] w fun e w' => e = .returned (.string (qO t n x)) ∧ Below w.heap.size w w' := by
  by_cases t3 : t = 3
  · subst t3
    exact quoted_text n x hx w
  · have e : qO t n x = wO t n x := by unfold qO; rw [if_neg t3]
    rw [e]
    exact quoted_other t n x _ t3 w hT (fun w hT => cword_all t n x h0 h1 w hT)

theorem rquo_all (t n : Int) (x : ByteArray) (hx : x.size ≤ 60) (h0 : -9223372036854775808 ≤ n) (h1 : n ≤ 9223372036854775807) (w : World) (hT : TabW w) :
    Calls Tryd.prog 30 #[.agg #[.int .i64 t, .int .i64 n, .string x]] w fun e w' => e = .returned (.string (qO t n x)) ∧ Below w.heap.size w w' := by
  by_cases t3 : t = 3
  · subst t3
    exact rquoted_text n x hx w
  · have e : qO t n x = wO t n x := by unfold qO; rw [if_neg t3]
    rw [e]
    exact rquoted_other t n x _ t3 w hT (fun w hT => rword_all t n x h0 h1 w hT)

theorem all_same (ta na tb nb : Int) (sa sb : ByteArray) (z : Nat) (hz : z < 256) (ha0 : -9223372036854775808 ≤ na) (ha1 : na ≤ 9223372036854775807) (w : World) (hT : TabW w) :
    Calls Tryd.prog 3 #[.agg #[.int .i64 ta, .int .i64 na, .string sa], .agg #[.int .i64 tb, .int .i64 nb, .string sb], .int .u8 (z : Int)] w fun e w' => e = .returned (.bool true) ∧ Below w.heap.size w w' := by
  obtain ⟨xa, lxa, SA⟩ := short_all ta na sa
  obtain ⟨xb, lxb, SB⟩ := short_all tb nb sb
  obtain ⟨m, MC, MD⟩ := may_same ta na xa
  have hs : ∃ g, sg (z % 13) = g ∧ Same g ta na xa tb nb xb ∧ SameS g ta na xa := by
    have hk : z % 13 = 0 ∨ z % 13 = 1 ∨ z % 13 = 2 ∨ z % 13 = 3 ∨ z % 13 = 4 ∨ z % 13 = 5 ∨ z % 13 = 6 ∨ z % 13 = 7 ∨ z % 13 = 8 ∨ z % 13 = 9 ∨ z % 13 = 10 ∨ z % 13 = 11 ∨ z % 13 = 12 := by omega
    rcases hk with hk | hk | hk | hk | hk | hk | hk | hk | hk | hk | hk | hk | hk <;> rw [hk]
    · exact ⟨_, rfl, same_add ta na tb nb xa xb lxa lxb, sames_add ta na xa⟩
    · exact ⟨_, rfl, same_sub ta na tb nb xa xb lxa lxb, sames_sub ta na xa⟩
    · exact ⟨_, rfl, same_mul ta na tb nb xa xb lxa lxb, sames_mul ta na xa⟩
    · exact ⟨_, rfl, same_quo ta na tb nb xa xb lxa lxb, sames_quo ta na xa⟩
    · exact ⟨_, rfl, same_rem ta na tb nb xa xb lxa lxb, sames_rem ta na xa⟩
    · exact ⟨_, rfl, same_lss ta na tb nb xa xb lxa lxb, sames_lss ta na xa⟩
    · exact ⟨_, rfl, same_leq ta na tb nb xa xb lxa lxb, sames_leq ta na xa⟩
    · exact ⟨_, rfl, same_eq ta na tb nb xa xb lxa lxb, sames_eq ta na xa⟩
    · exact ⟨_, rfl, same_ne ta na tb nb xa xb lxa lxb, sames_ne ta na xa⟩
    · exact ⟨_, rfl, same_or ta na tb nb xa xb lxa lxb, sames_or ta na xa⟩
    · exact ⟨_, rfl, same_and ta na tb nb xa xb lxa lxb, sames_and ta na xa⟩
    · exact ⟨_, rfl, same_not ta na tb nb xa xb lxa lxb, sames_not ta na xa⟩
    · exact ⟨_, rfl, same_ask ta na tb nb xa xb lxa lxb, sames_ask ta na xa⟩
  obtain ⟨g, hg, ⟨rt, rn, rs, x, BC, BR⟩, gt, gn, gs, GC, GR⟩ := hs
  exact all_walk ta na tb nb sa sb xa xb z hz g hg rt rn x gt gn rs gs (wO ta na xa) (qO ta na xa) m SA SB BC BR GC GR MC MD
    (fun w hT => cword_all ta na xa ha0 ha1 w hT) (fun w hT => rword_all ta na xa ha0 ha1 w hT) (fun w hT => cquo_all ta na xa lxa ha0 ha1 w hT) (fun w hT => rquo_all ta na xa lxa ha0 ha1 w hT) w hT
end Go.Proofs.YtpighdioomjnmaaDoor.textsof
