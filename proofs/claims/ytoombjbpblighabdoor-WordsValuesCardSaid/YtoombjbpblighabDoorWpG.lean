/-
  Layer 22: lines that set a number or a text, as data. Written by an AI agent.
-/
import Derived.Test.YtoombjbpblighabDoorWpF
namespace Go.Proofs.YtoombjbpblighabDoor
open Go Go.RowKit Go.Shelf
set_option linter.unusedVariables false
set_option linter.unusedSimpArgs false
set_option maxRecDepth 100000

theorem itoa_ne (n : Int) : Lib.itoa n ≠ [] := by
  unfold Lib.itoa
  split
  · simp
  · exact dec_ne _
theorem itoa_zero (m : Int) (r : List UInt8) (h : Lib.itoa m = 48 :: r) : r = [] := by
  unfold Lib.itoa at h
  split at h
  · exact absurd (List.cons.inj h).1 (by decide)
  · exact (dec_zero _ _ h).2
theorem itoa_len (n : Int) (h : Rng n) : (Lib.itoa n).length ≤ 21 := Lib.itoa_length_le n h.1 h.2
theorem heard_itoa (n : Int) (h : Rng n) : heardN (Lib.itoa n) = ⟨1, n, []⟩ := by
  unfold heardN
  rw [if_neg (fun e => itoa_not n 116 (by decide) (by rw [e]; decide)), if_neg (fun e => itoa_not n 102 (by decide) (by rw [e]; decide)), if_neg, numN_itoa n h]
  rintro ⟨h1, h2, _⟩
  cases hx : Lib.itoa n with
  | nil => exact itoa_ne n hx
  | cons c r =>
    rw [hx] at h2
    obtain rfl : c = 34 := h2
    exact itoa_not n 34 (by decide) (by rw [hx]; simp)
def setLine (w : List UInt8) : List UInt8 := setB ++ 32 :: ([97] ++ 32 :: w)
def numC (n : Int) : Cm := ⟨setB, [97], [], 0, ⟨1, n, []⟩⟩
def textC (S : List UInt8) : Cm := ⟨setB, [97], [], 0, ⟨3, 0, S⟩⟩
theorem num_read (n : Int) (h : Rng n) : readN (setLine (Lib.itoa n)) = some (numC n) :=
  set_good (S := [97]) (by decide) ⟨1, n, []⟩ (by simp [speakN, mayV, onlyN]) (heard_itoa n h) (by have := itoa_len n h; show (Lib.itoa n).length ≤ 50; omega)
theorem num_line (n : Int) (h : Rng n) : lineN (numC n) = some (setLine (Lib.itoa n)) := read_back (num_read n h)
theorem zero_read (n : Int) : readN (setLine (48 :: Lib.itoa n)) = none := by
  cases h : readN (setLine (48 :: Lib.itoa n)) with
  | none => rfl
  | some c =>
    obtain ⟨_, _, h1, h2⟩ := set_read (S := [97]) (fun e => by
      rcases List.mem_cons.1 e with e | e
      · revert e; decide
      · exact itoa_no n e) h
    exfalso
    unfold speakN at h2
    simp only [Bool.and_eq_true, decide_eq_true_eq] at h2
    unfold quotedN wordN at h1
    split at h1
    · have := (List.cons.inj h1).1
      revert this; decide
    · split at h1
      · exact itoa_ne n (itoa_zero _ _ h1)
      · split at h1
        · split at h1
          · have := (List.cons.inj h1).1
            revert this; decide
          · have := (List.cons.inj h1).1
            revert this; decide
        · split at h1
          · exact h2.2.1 (by assumption)
          · cases h1
/-- A text that may be said. -/
def sayS (S : List UInt8) : Bool := onlyN S && !(S.contains 34)
theorem text_speak (S : List UInt8) (hl : S.length ≤ 20) : speakN ⟨3, 0, S⟩ = sayS S := by
  unfold speakN mayV sayS
  simp
  omega
theorem text_heard (S : List UInt8) : heardN (34 :: (S ++ [34])) = ⟨3, 0, S⟩ := by
  unfold heardN
  rw [if_neg (fun e => by have := (List.cons.inj e).1; revert this; decide), if_neg (fun e => by have := (List.cons.inj e).1; revert this; decide), if_pos]
  · simp
  · refine ⟨by simp, rfl, ?_⟩
    simp [List.getD]
theorem text_read (S : List UInt8) (hl : S.length ≤ 20) (h : sayS S = true) : readN (setLine (34 :: (S ++ [34]))) = some (textC S) :=
  set_good (S := [97]) (by decide) ⟨3, 0, S⟩ (by rw [text_speak S hl]; exact h) (text_heard S) (by show (34 :: (S ++ [34])).length ≤ 50; simp; omega)
theorem text_line (S : List UInt8) (hl : S.length ≤ 20) (h : sayS S = true) : lineN (textC S) = some (setLine (34 :: (S ++ [34]))) := read_back (text_read S hl h)
theorem text_bad (S : List UInt8) (hl : S.length ≤ 20) (h : sayS S = false) : lineN (textC S) = none := by
  have e : kindsN setB = some [0, 3] := by decide
  unfold lineN
  rw [show (textC S).verb = setB from rfl, e]
  simp only
  have g : lineGo [0, 3] (textC S) (zeroC setB) setB = none := by
    rw [lineGo, if_pos (show (sayN 0 (textC S)).2 = true from (by decide : nameN [97] = true)), lineGo, if_neg]
    show ¬ speakN ⟨3, 0, S⟩ = true
    rw [text_speak S hl, h]
    decide
  rw [g]
theorem open_read (S : List UInt8) (h : sayS S = true) : readN (setLine (34 :: S)) = none := by
  unfold sayS at h
  simp only [Bool.and_eq_true, Bool.not_eq_true', List.contains_eq_mem, decide_eq_false_iff_not] at h
  cases hr : readN (setLine (34 :: S)) with
  | none => rfl
  | some c =>
    obtain ⟨_, _, h1, h2⟩ := set_read (S := [97]) (fun e => by
      rcases List.mem_cons.1 e with e | e
      · revert e; decide
      · exact only_no h.1 e) hr
    exfalso
    unfold speakN at h2
    simp only [Bool.and_eq_true, decide_eq_true_eq] at h2
    unfold quotedN wordN at h1
    split at h1
    · have h3 := (List.cons.inj h1).2
      exact h.2 (by rw [← h3]; simp)
    · split at h1
      · exact itoa_not _ 34 (by decide) (by rw [h1]; simp)
      · split at h1
        · split at h1
          · have := (List.cons.inj h1).1
            revert this; decide
          · have := (List.cons.inj h1).1
            revert this; decide
        · split at h1
          · exact h2.2.1 (by assumption)
          · cases h1
def chk2 (c : UInt8) : Bool := decide (33 ≤ c.toNat) && (decide (c.toNat ≤ 126) && decide (c.toNat ≠ 34))
theorem say_chk (S : List UInt8) : sayS S = S.all chk2 := by
  induction S with
  | nil => rfl
  | cons c S ih =>
    rw [List.all_cons, ← ih]
    unfold sayS onlyN chk2
    rw [List.all_cons, List.contains_cons]
    have e : ((34 : UInt8) == c) = decide (c.toNat = 34) := by
      by_cases g : c = 34
      · subst g; rfl
      · rw [decide_eq_false (show ¬ c.toNat = 34 from fun h => g (UInt8.toNat_inj.1 h)), beq_eq_false_iff_ne]
        exact fun h => g h.symm
    rw [e]
    by_cases a1 : 33 ≤ c.toNat <;> by_cases a2 : c.toNat ≤ 126 <;> by_cases a3 : c.toNat = 34 <;> simp [a1, a2, a3]
theorem take_chk2 (X : ByteArray) (i : Nat) (h : i < X.size) : (X.data.toList.take (i + 1)).all chk2 = ((X.data.toList.take i).all chk2 && chk2 (X[i]'h)) := by
  rw [List.take_succ_eq_append_getElem (by rw [len_size]; exact h), List.all_append]
  simp
  rfl
end Go.Proofs.YtoombjbpblighabDoor
