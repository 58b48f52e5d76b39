/-
  Layer 22: lines that set, as data; the words known by heart. Written by an AI agent.
-/
import Derived.Test.YtoombjbpblighabDoorWoX
namespace Go.Proofs.YtoombjbpblighabDoor
open Go Go.RowKit Go.Shelf
set_option linter.unusedVariables false
set_option linter.unusedSimpArgs false
set_option maxRecDepth 100000

theorem splitSp_app (x y : List UInt8) : splitSp (x ++ 32 :: y) = splitSp x ++ splitSp y := by
  induction x with
  | nil => simp [splitSp]
  | cons c x ih =>
    rw [List.cons_append, splitSp, splitSp]
    by_cases h : c = 32
    · rw [if_pos h, if_pos h, ih]
      rfl
    · rw [if_neg h, if_neg h, ih]
      cases hx : splitSp x with
      | nil => exact absurd hx (splitSp_ne x)
      | cons w ws => rfl
theorem splitSp_one {x a : List UInt8} (h : splitSp x = [a]) : x = a := by
  induction x generalizing a with
  | nil => simpa [splitSp] using h
  | cons c x ih =>
    rw [splitSp] at h
    split at h
    · have := splitSp_ne x
      simp at h
      exact absurd h.2 this
    · cases hx : splitSp x with
      | nil => exact absurd hx (splitSp_ne x)
      | cons w ws =>
        rw [hx] at h
        simp at h
        obtain ⟨h1, h2⟩ := h
        subst h2
        rw [ih hx, ← h1]
/-- What is read is a line again. -/
theorem read_back {l : List UInt8} {c : Cm} (h : readN l = some c) : lineN c = some l := by
  rw [read_cases] at h
  split at h
  · cases h
  · split at h
    · split at h
      · rename_i g
        cases h
        exact g
      · cases h
    · cases h
theorem line_made {l : List UInt8} {c : Cm} (h : lineN c = some l) : ∃ ks, kindsN c.verb = some ks ∧ (∀ k ∈ ks, (sayN k c).2 = true) ∧ l = c.verb ++ tailB (ks.map fun k => (sayN k c).1) ∧ c = hearAll ks (ks.map fun k => (sayN k c).1) (zeroC c.verb) ∧ splitSp l = c.verb :: ks.map fun k => (sayN k c).1 := by
  unfold lineN at h
  cases hk : kindsN c.verb with
  | none => rw [hk] at h; cases h
  | some ks =>
    rw [hk] at h
    simp only at h
    cases hg : lineGo ks c (zeroC c.verb) c.verb with
    | none => rw [hg] at h; cases h
    | some r =>
      rw [hg] at h
      simp only at h
      split at h
      · rename_i hb
        simp only [Bool.and_eq_true] at hb
        have he := (Cm.eqB_iff _ _).1 hb.1
        obtain ⟨h1, h2, h3⟩ := lineGo_some ks c _ _ hg
        obtain rfl : r.2 = l := Option.some.inj h
        refine ⟨ks, rfl, h1, h2, he.symm.trans h3, ?_⟩
        rw [h2]
        exact splitSp_all _ (fun w hw => by
          obtain ⟨k, hk, rfl⟩ := List.mem_map.1 hw
          exact say_no k c (h1 k hk)) c.verb (kinds_no hk)
      · cases h
def setB : List UInt8 := [115, 101, 116]
theorem line_le {l : List UInt8} {c : Cm} (h : lineN c = some l) : l.length ≤ 80 := by
  unfold lineN at h
  split at h
  · cases h
  · split at h
    · cases h
    · split at h
      · rename_i hb
        simp only [Bool.and_eq_true, decide_eq_true_eq] at hb
        cases h
        exact hb.2
      · cases h
/-- What "set S w" is read as. -/
theorem set_read {S w : List UInt8} (hw : (32 : UInt8) ∉ w) {c : Cm} (h : readN (setB ++ 32 :: (S ++ 32 :: w)) = some c) : nameN S = true ∧ c = ⟨setB, S, [], 0, c.v⟩ ∧ quotedN c.v = w ∧ speakN c.v = true := by
  have hl := read_back h
  obtain ⟨ks, h1, h2, h3, h4, h5⟩ := line_made hl
  rw [splitSp_word setB (by decide), splitSp_app, splitSp_last w hw] at h5
  have hv : setB = c.verb := (List.cons.inj h5).1
  have h6 := (List.cons.inj h5).2
  rw [← hv] at h1 h4
  have hks : ks = [0, 3] := by
    have e : kindsN setB = some [0, 3] := by decide
    rw [e] at h1
    exact (Option.some.inj h1).symm
  subst hks
  have h7 : splitSp S ++ [w] = [c.a] ++ [quotedN c.v] := h6
  obtain ⟨h8, h9⟩ := List.append_inj' h7 rfl
  have hS := splitSp_one h8
  subst hS
  refine ⟨h2 0 (by simp), ?_, (List.cons.inj h9).1.symm, h2 3 (by simp)⟩
  have hb : c.b = [] := by rw [h4]; rfl
  have hn : c.n = 0 := by rw [h4]; rfl
  obtain ⟨v, a, b, n, x⟩ := c
  simp only at hv hb hn ⊢
  rw [hb, hn, ← hv]
theorem set_good {S : List UInt8} (hS : nameN S = true) (v : V3) (h1 : speakN v = true) (h2 : heardN (quotedN v) = v) (h3 : (quotedN v).length ≤ 50) : readN (setB ++ 32 :: (S ++ 32 :: quotedN v)) = some ⟨setB, S, [], 0, v⟩ := by
  apply read_line
  have hSl : S.length ≤ 20 := by
    unfold nameN at hS
    simp only [Bool.and_eq_true, decide_eq_true_eq] at hS
    exact hS.2.1
  have e : kindsN setB = some [0, 3] := by decide
  have g : lineGo [0, 3] ⟨setB, S, [], 0, v⟩ (zeroC setB) setB = some (⟨setB, S, [], 0, v⟩, setB ++ 32 :: (S ++ 32 :: quotedN v)) := by
    rw [lineGo, if_pos (show (sayN 0 ⟨setB, S, [], 0, v⟩).2 = true from hS), lineGo, if_pos (show (sayN 3 (⟨setB, S, [], 0, v⟩ : Cm)).2 = true from h1), lineGo]
    have e1 : hearN 3 (sayN 3 ⟨setB, S, [], 0, v⟩).1 (hearN 0 (sayN 0 ⟨setB, S, [], 0, v⟩).1 (zeroC setB)) = ⟨setB, S, [], 0, v⟩ := by
      show (⟨setB, S, [], 0, heardN (quotedN v)⟩ : Cm) = _
      rw [h2]
    rw [e1]
    simp [sayN]
  unfold lineN
  rw [show (⟨setB, S, [], 0, v⟩ : Cm).verb = setB from rfl, e]
  simp only
  rw [g]
  simp only
  rw [if_pos]
  rw [(Cm.eqB_iff _ _).2 rfl, decide_eq_true (by simp [setB]; omega)]
  rfl
open Lib in
theorem dec_top (u : Nat) : ∀ c ∈ decDigits u, c.toNat ≤ 57 := by
  induction u using Nat.strongRecOn with
  | _ u ih =>
    intro c hc
    by_cases h : u < 10
    · rw [decDigits, dif_pos h] at hc
      rw [List.mem_singleton.1 hc, digit_toNat u h]
      omega
    · rw [decDigits, dif_neg h] at hc
      rcases List.mem_append.1 hc with h1 | h1
      · exact ih (u / 10) (by omega) c h1
      · rw [List.mem_singleton.1 h1, digit_toNat _ (by omega)]
        omega
theorem itoa_not (n : Int) (c : UInt8) (h : ¬ (48 ≤ c.toNat ∧ c.toNat ≤ 57) ∧ c.toNat ≠ 45) : c ∉ Lib.itoa n := by
  intro hc
  unfold Lib.itoa at hc
  split at hc
  · rcases List.mem_cons.1 hc with hc | hc
    · subst hc
      exact h.2 rfl
    · exact h.1 ⟨dec_big _ _ hc, dec_top _ _ hc⟩
  · exact h.1 ⟨dec_big _ _ hc, dec_top _ _ hc⟩
theorem set_true {S : List UInt8} (hS : nameN S = true) : readN (setB ++ 32 :: (S ++ 32 :: trueB)) = some ⟨setB, S, [], 0, ⟨2, 1, []⟩⟩ := set_good hS ⟨2, 1, []⟩ (by decide) (by kernel_rfl) (by decide)
theorem set_false {S : List UInt8} (hS : nameN S = true) : readN (setB ++ 32 :: (S ++ 32 :: falseB)) = some ⟨setB, S, [], 0, ⟨2, 0, []⟩⟩ := set_good hS ⟨2, 0, []⟩ (by decide) (by kernel_rfl) (by decide)
theorem set_bad {S w : List UInt8} (hS : nameN S = false) (hw : (32 : UInt8) ∉ w) : readN (setB ++ 32 :: (S ++ 32 :: w)) = none := by
  cases h : readN (setB ++ 32 :: (S ++ 32 :: w)) with
  | none => rfl
  | some c =>
    have := (set_read hw h).1
    rw [hS] at this
    cases this
def listB : List UInt8 := [108, 105, 115, 116]
theorem set_list (S : List UInt8) : readN (setB ++ 32 :: (S ++ 32 :: listB)) = none := by
  cases h : readN (setB ++ 32 :: (S ++ 32 :: listB)) with
  | none => rfl
  | some c =>
    obtain ⟨_, _, h1, h2⟩ := set_read (by decide) h
    exfalso
    unfold speakN at h2
    simp only [Bool.and_eq_true, decide_eq_true_eq] at h2
    unfold quotedN wordN at h1
    split at h1
    · cases h1
    · split at h1
      · have : (108 : UInt8) ∈ Lib.itoa c.v.n := by rw [h1]; decide
        exact itoa_not _ _ (by decide) this
      · split at h1
        · split at h1 <;> cases h1
        · split at h1
          · exact h2.2.1 (by assumption)
          · cases h1
def shownB : List UInt8 := [102, 111, 114, 107, 32, 98, 32, 97, 32, 45, 53]
theorem shown_read : readN shownB = some ⟨[102, 111, 114, 107], [98], [97], 0, ⟨1, -5, []⟩⟩ := by kernel_rfl
end Go.Proofs.YtoombjbpblighabDoor
