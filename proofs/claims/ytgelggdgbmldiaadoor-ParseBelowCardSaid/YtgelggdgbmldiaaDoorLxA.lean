/-
  Layer 1: what a source is as tokens, as data. Written by an AI agent.
-/
import Derived.Lib.Bytealg
namespace Go.Proofs.YtgelggdgbmldiaaDoor
set_option linter.unusedVariables false
set_option linter.unusedSimpArgs false

def dig (c : UInt8) : Bool := decide (48 ≤ c.toNat) && decide (c.toNat ≤ 57)
def ltr (c : UInt8) : Bool := (decide (97 ≤ c.toNat) && decide (c.toNat ≤ 122)) || (decide (65 ≤ c.toNat) && decide (c.toNat ≤ 90))
def blk (c : UInt8) : Bool := (decide (c.toNat = 32) || decide (c.toNat = 9)) || (decide (c.toNat = 13) || decide (c.toNat = 10))
def nmc (c : UInt8) : Bool := (ltr c || dig c) || decide (c.toNat = 95)
def txc (c : UInt8) : Bool := (decide (32 ≤ c.toNat) && decide (c.toNat ≤ 126)) && !decide (c.toNat = 34)

/-- How many bytes at the beginning are of a kind. -/
def runL (p : UInt8 → Bool) : List UInt8 → Nat
  | [] => 0
  | c :: r => if p c then runL p r + 1 else 0

theorem runL_le (p : UInt8 → Bool) (l : List UInt8) : runL p l ≤ l.length := by
  induction l with
  | nil => exact Nat.le_refl _
  | cons c r ih => unfold runL; split <;> simp <;> omega

theorem runL_all (p : UInt8 → Bool) (l : List UInt8) : ∀ c ∈ l.take (runL p l), p c = true := by
  induction l with
  | nil => intro c h; simp at h
  | cons d r ih =>
    intro c h
    unfold runL at h
    split at h
    · rename_i hd
      rw [List.take_succ_cons, List.mem_cons] at h
      rcases h with rfl | h
      · exact hd
      · exact ih c h
    · simp at h

theorem runL_stop (p : UInt8 → Bool) (l : List UInt8) (c : UInt8) (h : l[runL p l]? = some c) : p c = false := by
  induction l with
  | nil => simp [runL] at h
  | cons d r ih =>
    unfold runL at h
    split at h
    · exact ih (by simpa using h)
    · rename_i hd
      have : d = c := by simpa using h
      rw [← this]
      simpa using hd

theorem runL_append (p : UInt8 → Bool) (a b : List UInt8) (ha : ∀ c ∈ a, p c = true) : runL p (a ++ b) = a.length + runL p b := by
  induction a with
  | nil => simp
  | cons d r ih =>
    rw [List.cons_append]
    show (if p d then runL p (r ++ b) + 1 else 0) = _
    rw [if_pos (ha d (by simp)), ih fun c hc => ha c (by simp [hc]), List.length_cons]
    omega

theorem runL_cons_false (p : UInt8 → Bool) (c : UInt8) (r : List UInt8) (h : p c = false) : runL p (c :: r) = 0 := by
  show (if p c then _ else 0) = 0
  rw [h]
  rfl

theorem runL_whole (p : UInt8 → Bool) (a : List UInt8) (ha : ∀ c ∈ a, p c = true) : runL p a = a.length := by
  have := runL_append p a [] ha
  simpa [runL] using this

/-- Cut behind what is of the kind, it is as long. -/
theorem runL_take (p : UInt8 → Bool) (l : List UInt8) (n : Nat) (h : runL p l ≤ n) : runL p (l.take n) = runL p l := by
  induction l generalizing n with
  | nil => simp [runL]
  | cons d r ih =>
    cases n with
    | zero =>
      have h0 : runL p (d :: r) = 0 := Nat.le_zero.1 h
      rw [h0]
      rfl
    | succ n =>
      rw [List.take_succ_cons]
      show (if p d then runL p (r.take n) + 1 else 0) = (if p d then runL p r + 1 else 0)
      by_cases hd : p d = true
      · rw [if_pos hd, if_pos hd, ih n (by
          have : runL p (d :: r) = runL p r + 1 := by show (if p d then _ else 0) = _; rw [if_pos hd]
          omega)]
      · rw [if_neg hd, if_neg hd]

/-- The number of digits. -/
def numV (l : List UInt8) : Nat := l.foldl (fun a c => a * 10 + (c.toNat - 48)) 0

def wordsL : List (List UInt8) := [[102, 110], [108, 101, 116], [105, 102], [101, 108, 115, 101], [119, 104, 105, 108, 101], [114, 101, 116, 117, 114, 110], [112, 114, 105, 110, 116], [105, 110, 112, 117, 116],
  [110, 101, 119], [108, 101, 110], [116, 114, 117, 101], [102, 97, 108, 115, 101], [105, 110, 116], [98, 111, 111, 108], [116, 101, 120, 116], [108, 105, 115, 116]]
def isWord (l : List UInt8) : Bool := wordsL.contains l
def twosL : List (List UInt8) := [[124, 124], [38, 38], [60, 61], [61, 61], [33, 61]]
def onesL : List UInt8 := [40, 41, 123, 125, 91, 93, 44, 59, 61, 60, 43, 45, 42, 47, 37, 33]
def isTwo (l : List UInt8) : Bool := twosL.any (fun t => t.isPrefixOf l)

/-- The kind, the size and the error of the first token. -/
def numberL (l : List UInt8) : Nat × Nat × Nat := if numV (l.take (runL dig l)) ≤ 9223372036854775807 ∧ runL dig l ≤ 19 then (1, runL dig l, 0) else (0, 0, 12)
def nameL (l : List UInt8) : Nat × Nat × Nat := if isWord (l.take (runL nmc l)) then (4, runL nmc l, 0) else if 8 < runL nmc l then (0, 0, 13) else (3, runL nmc l, 0)
def textL (r : List UInt8) : Nat × Nat × Nat := if r[runL txc r]? = some 34 then (if 12 < runL txc r then (0, 0, 4) else (2, runL txc r + 2, 0)) else (0, 0, 11)
def signL (l : List UInt8) : Nat × Nat × Nat := if isTwo l then (5, 2, 0) else if onesL.contains (l.headD 0) then (5, 1, 0) else (0, 0, 10)
def firstL (l : List UInt8) : Nat × Nat × Nat :=
  if dig (l.headD 0) then numberL l else if ltr (l.headD 0) then nameL l else if l.headD 0 = 34 then textL l.tail else signL l

theorem firstL_cons (c : UInt8) (r : List UInt8) : firstL (c :: r) = if dig c then numberL (c :: r) else if ltr c then nameL (c :: r) else if c = 34 then textL r else signL (c :: r) := rfl
theorem signL_cons (c : UInt8) (r : List UInt8) : signL (c :: r) = if isTwo (c :: r) then (5, 2, 0) else if onesL.contains c then (5, 1, 0) else (0, 0, 10) := rfl

/-- What a token says. -/
def saidL (k : Nat) (l : List UInt8) : List UInt8 := if k = 2 then (l.take (l.length - 1)).drop 1 else l

structure Tok where
  k : Nat
  x : List UInt8
  p : Nat

instance : Inhabited Tok := ⟨⟨0, [], 0⟩⟩

def isRem (l : List UInt8) : Bool := ([47, 47] : List UInt8).isPrefixOf l

/-- The tokens of what is left, from a place on; and where it fails, and how. -/
def lexF : Nat → List UInt8 → Nat → List Tok × Option (Nat × Nat)
  | 0, l, p => ([⟨0, [], p⟩], none)
  | n + 1, [], p => ([⟨0, [], p⟩], none)
  | n + 1, c :: r, p =>
    if blk c then lexF n r (p + 1)
    else if isRem (c :: r) then
      (if runL (fun d => !decide (d = 10)) (c :: r) = (c :: r).length then ([⟨0, [], p + (c :: r).length⟩], none)
       else lexF n ((c :: r).drop (runL (fun d => !decide (d = 10)) (c :: r))) (p + runL (fun d => !decide (d = 10)) (c :: r)))
    else if (firstL (c :: r)).2.2 = 0 then
      (⟨(firstL (c :: r)).1, saidL (firstL (c :: r)).1 ((c :: r).take (firstL (c :: r)).2.1), p⟩ :: (lexF n ((c :: r).drop (firstL (c :: r)).2.1) (p + (firstL (c :: r)).2.1)).1,
       (lexF n ((c :: r).drop (firstL (c :: r)).2.1) (p + (firstL (c :: r)).2.1)).2)
    else ([], some (p, (firstL (c :: r)).2.2))

def lexL (l : List UInt8) (p : Nat) : List Tok × Option (Nat × Nat) := lexF l.length l p

theorem first_size (l : List UInt8) (hl : l ≠ []) (h : (firstL l).2.2 = 0) : 1 ≤ (firstL l).2.1 ∧ (firstL l).2.1 ≤ l.length := by
  obtain ⟨c, r, rfl⟩ := List.exists_cons_of_ne_nil hl
  rw [firstL_cons] at h ⊢
  by_cases h1 : dig c = true
  · rw [if_pos h1] at h ⊢
    have hr : runL dig (c :: r) = runL dig r + 1 := by show (if dig c then _ else 0) = _; rw [if_pos h1]
    have := runL_le dig (c :: r)
    unfold numberL at h ⊢
    split at h
    · rename_i hc
      rw [if_pos hc]
      show 1 ≤ runL dig (c :: r) ∧ runL dig (c :: r) ≤ _
      omega
    · cases h
  · rw [if_neg h1] at h ⊢
    by_cases h2 : ltr c = true
    · rw [if_pos h2] at h ⊢
      have hn : nmc c = true := by unfold nmc; rw [h2]; rfl
      have hr : runL nmc (c :: r) = runL nmc r + 1 := by show (if nmc c then _ else 0) = _; rw [if_pos hn]
      have := runL_le nmc (c :: r)
      unfold nameL at h ⊢
      split at h
      · rename_i hc
        rw [if_pos hc]
        show 1 ≤ runL nmc (c :: r) ∧ runL nmc (c :: r) ≤ _
        omega
      · rename_i hc
        rw [if_neg hc]
        split at h
        · cases h
        · rename_i hc
          rw [if_neg hc]
          show 1 ≤ runL nmc (c :: r) ∧ runL nmc (c :: r) ≤ _
          omega
    · rw [if_neg h2] at h ⊢
      by_cases h3 : c = 34
      · rw [if_pos h3] at h ⊢
        unfold textL at h ⊢
        split at h
        · rename_i hc
          rw [if_pos hc]
          split at h
          · cases h
          · rename_i hd
            rw [if_neg hd]
            have : runL txc r < r.length := (List.getElem?_eq_some_iff.1 hc).1
            show 1 ≤ runL txc r + 2 ∧ runL txc r + 2 ≤ (c :: r).length
            rw [List.length_cons]
            omega
        · cases h
      · rw [if_neg h3] at h ⊢
        rw [signL_cons] at h ⊢
        split at h
        · rename_i hc
          rw [if_pos hc]
          refine ⟨by decide, ?_⟩
          show 2 ≤ (c :: r).length
          unfold isTwo at hc
          rw [List.any_eq_true] at hc
          obtain ⟨t, ht, hp⟩ := hc
          have h5 : t.length = 2 := by
            simp only [twosL, List.mem_cons, List.not_mem_nil, or_false] at ht
            rcases ht with rfl | rfl | rfl | rfl | rfl <;> rfl
          have h6 := (List.isPrefixOf_iff_prefix.1 hp).length_le
          omega
        · rename_i hc
          rw [if_neg hc]
          split at h
          · rename_i hd
            rw [if_pos hd]
            refine ⟨Nat.le_refl _, ?_⟩
            show 1 ≤ (c :: r).length
            rw [List.length_cons]
            omega
          · cases h

theorem rem_size (l : List UInt8) (h : isRem l = true) : 2 ≤ runL (fun d => !decide (d = 10)) l := by
  unfold isRem at h
  obtain ⟨t, rfl⟩ := List.isPrefixOf_iff_prefix.1 h
  rw [runL_append _ _ _ (by decide)]
  simp

theorem lexF_fuel (n m : Nat) (l : List UInt8) (p : Nat) (hn : l.length ≤ n) (hm : l.length ≤ m) : lexF n l p = lexF m l p := by
  induction n generalizing m l p with
  | zero =>
    have : l = [] := List.length_eq_zero_iff.1 (by omega)
    subst this
    cases m <;> rfl
  | succ n ih =>
    cases l with
    | nil => cases m <;> rfl
    | cons c r =>
      cases m with
      | zero => simp at hm
      | succ m =>
        simp only [List.length_cons] at hn hm
        unfold lexF
        by_cases h1 : blk c = true
        · rw [if_pos h1, if_pos h1, ih m r (p + 1) (by omega) (by omega)]
        · rw [if_neg h1, if_neg h1]
          by_cases h2 : isRem (c :: r) = true
          · rw [if_pos h2, if_pos h2]
            have := rem_size _ h2
            split
            · rfl
            · exact ih m _ _ (by rw [List.length_drop, List.length_cons]; omega) (by rw [List.length_drop, List.length_cons]; omega)
          · rw [if_neg h2, if_neg h2]
            by_cases h3 : (firstL (c :: r)).2.2 = 0
            · have h4 := first_size (c :: r) (by simp) h3
              rw [if_pos h3, if_pos h3, ih m _ _ (by rw [List.length_drop, List.length_cons]; omega) (by rw [List.length_drop, List.length_cons]; omega)]
            · rw [if_neg h3, if_neg h3]

theorem lexL_nil (p : Nat) : lexL [] p = ([⟨0, [], p⟩], none) := rfl
theorem lexL_blank {c : UInt8} {r : List UInt8} {p : Nat} (h : blk c = true) : lexL (c :: r) p = lexL r (p + 1) := by
  unfold lexL
  rw [List.length_cons]
  conv => lhs; unfold lexF
  rw [if_pos h]
theorem lexL_rem_end {c : UInt8} {r : List UInt8} {p : Nat} (h0 : blk c = false) (h : isRem (c :: r) = true) (he : runL (fun d => !decide (d = 10)) (c :: r) = (c :: r).length) : lexL (c :: r) p = ([⟨0, [], p + (c :: r).length⟩], none) := by
  unfold lexL
  rw [List.length_cons]
  conv => lhs; unfold lexF
  rw [if_neg (by rw [h0]; decide), if_pos h, if_pos he]
  rfl
theorem lexL_rem {c : UInt8} {r : List UInt8} {p : Nat} (h0 : blk c = false) (h : isRem (c :: r) = true) (he : ¬ runL (fun d => !decide (d = 10)) (c :: r) = (c :: r).length) :
    lexL (c :: r) p = lexL ((c :: r).drop (runL (fun d => !decide (d = 10)) (c :: r))) (p + runL (fun d => !decide (d = 10)) (c :: r)) := by
  have h2 := rem_size _ h
  unfold lexL
  rw [List.length_cons]
  conv => lhs; unfold lexF
  rw [if_neg (by rw [h0]; decide), if_pos h, if_neg he]
  exact lexF_fuel _ _ _ _ (by rw [List.length_drop, List.length_cons]; omega) (Nat.le_refl _)
theorem lexL_bad {c : UInt8} {r : List UInt8} {p : Nat} (h0 : blk c = false) (h : isRem (c :: r) = false) (he : ¬ (firstL (c :: r)).2.2 = 0) : lexL (c :: r) p = ([], some (p, (firstL (c :: r)).2.2)) := by
  unfold lexL
  rw [List.length_cons]
  conv => lhs; unfold lexF
  rw [if_neg (by rw [h0]; decide), if_neg (by rw [h]; decide), if_neg he]
theorem lexL_tok {c : UInt8} {r : List UInt8} {p : Nat} (h0 : blk c = false) (h : isRem (c :: r) = false) (he : (firstL (c :: r)).2.2 = 0) :
    lexL (c :: r) p = (⟨(firstL (c :: r)).1, saidL (firstL (c :: r)).1 ((c :: r).take (firstL (c :: r)).2.1), p⟩ :: (lexL ((c :: r).drop (firstL (c :: r)).2.1) (p + (firstL (c :: r)).2.1)).1,
       (lexL ((c :: r).drop (firstL (c :: r)).2.1) (p + (firstL (c :: r)).2.1)).2) := by
  have h2 := first_size (c :: r) (by simp) he
  unfold lexL
  rw [List.length_cons]
  conv => lhs; unfold lexF
  rw [if_neg (by rw [h0]; decide), if_neg (by rw [h]; decide), if_pos he, lexF_fuel r.length ((c :: r).drop (firstL (c :: r)).2.1).length _ _ (by rw [List.length_drop, List.length_cons]; omega) (Nat.le_refl _)]

end Go.Proofs.YtgelggdgbmldiaaDoor
