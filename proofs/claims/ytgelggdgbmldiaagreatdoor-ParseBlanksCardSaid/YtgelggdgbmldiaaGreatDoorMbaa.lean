/-
  Layer 1: what a source is as tokens, as data. Written by an AI agent.
  Layer 1: what stays of tokens where a source is cut, shifted, or put together. Written by an AI agent.
  Layer 1: what tokens are: alone, put together again, and where they stand. Written by an AI agent.
  Layer 1: the tokens of texts of certain forms. Written by an AI agent.
-/
import Derived.Lib.Bytealg
namespace Go.Proofs.YtgelggdgbmldiaaGreatDoor
set_option linter.unusedVariables false
set_option linter.unusedSimpArgs false

def dig (c : UInt8) : Bool := decide (48 ≤ c.toNat) && decide (c.toNat ≤ 57)
def ltr (c : UInt8) : Bool := (decide (97 ≤ c.toNat) && decide (c.toNat ≤ 122)) || (decide (65 ≤ c.toNat) && decide (c.toNat ≤ 90))
def blk (c : UInt8) : Bool := (decide (c.toNat = 32) || decide (c.toNat = 9)) || (decide (c.toNat = 13) || decide (c.toNat = 10))
def nmc (c : UInt8) : Bool := (ltr c || dig c) || decide (c.toNat = 95)
def txc (c : UInt8) : Bool := (decide (32 ≤ c.toNat) && decide (c.toNat ≤ 126)) && !decide (c.toNat = 34)

/-- How many bytes at the beginning are of a kind. -/
def runL (p : UInt8 → Bool) : List UInt8 → Nat
  | [] => 0
  | c :: r => if p c then runL p r + 1 else 0

theorem runL_le (p : UInt8 → Bool) (l : List UInt8) : runL p l ≤ l.length := by
  induction l with
  | nil => exact Nat.le_refl _
  | cons c r ih => unfold runL; split <;> simp <;> omega

theorem runL_all (p : UInt8 → Bool) (l : List UInt8) : ∀ c ∈ l.take (runL p l), p c = true := by
  induction l with
  | nil => intro c h; simp at h
  | cons d r ih =>
    intro c h
    unfold runL at h
    split at h
    · rename_i hd
      rw [List.take_succ_cons, List.mem_cons] at h
      rcases h with rfl | h
      · exact hd
      · exact ih c h
    · simp at h

theorem runL_stop (p : UInt8 → Bool) (l : List UInt8) (c : UInt8) (h : l[runL p l]? = some c) : p c = false := by
  induction l with
  | nil => simp [runL] at h
  | cons d r ih =>
    unfold runL at h
    split at h
    · exact ih (by simpa using h)
    · rename_i hd
      have : d = c := by simpa using h
      rw [← this]
      simpa using hd

theorem runL_append (p : UInt8 → Bool) (a b : List UInt8) (ha : ∀ c ∈ a, p c = true) : runL p (a ++ b) = a.length + runL p b := by
  induction a with
  | nil => simp
  | cons d r ih =>
    rw [List.cons_append]
    show (if p d then runL p (r ++ b) + 1 else 0) = _
    rw [if_pos (ha d (by simp)), ih fun c hc => ha c (by simp [hc]), List.length_cons]
    omega

theorem runL_cons_false (p : UInt8 → Bool) (c : UInt8) (r : List UInt8) (h : p c = false) : runL p (c :: r) = 0 := by
  show (if p c then _ else 0) = 0
  rw [h]
  rfl

theorem runL_whole (p : UInt8 → Bool) (a : List UInt8) (ha : ∀ c ∈ a, p c = true) : runL p a = a.length := by
  have := runL_append p a [] ha
  simpa [runL] using this

/-- Cut behind what is of the kind, it is as long. -/
theorem runL_take (p : UInt8 → Bool) (l : List UInt8) (n : Nat) (h : runL p l ≤ n) : runL p (l.take n) = runL p l := by
  induction l generalizing n with
  | nil => simp [runL]
  | cons d r ih =>
    cases n with
    | zero =>
      have h0 : runL p (d :: r) = 0 := Nat.le_zero.1 h
      rw [h0]
      rfl
    | succ n =>
      rw [List.take_succ_cons]
      show (if p d then runL p (r.take n) + 1 else 0) = (if p d then runL p r + 1 else 0)
      by_cases hd : p d = true
      · rw [if_pos hd, if_pos hd, ih n (by
          have : runL p (d :: r) = runL p r + 1 := by show (if p d then _ else 0) = _; rw [if_pos hd]
          omega)]
      · rw [if_neg hd, if_neg hd]

/-- The number of digits. -/
def numV (l : List UInt8) : Nat := l.foldl (fun a c => a * 10 + (c.toNat - 48)) 0

def wordsL : List (List UInt8) := [[102, 110], [108, 101, 116], [105, 102], [101, 108, 115, 101], [119, 104, 105, 108, 101], [114, 101, 116, 117, 114, 110], [112, 114, 105, 110, 116], [105, 110, 112, 117, 116],
  [110, 101, 119], [108, 101, 110], [116, 114, 117, 101], [102, 97, 108, 115, 101], [105, 110, 116], [98, 111, 111, 108], [116, 101, 120, 116], [108, 105, 115, 116]]
def isWord (l : List UInt8) : Bool := wordsL.contains l
def twosL : List (List UInt8) := [[124, 124], [38, 38], [60, 61], [61, 61], [33, 61]]
def onesL : List UInt8 := [40, 41, 123, 125, 91, 93, 44, 59, 61, 60, 43, 45, 42, 47, 37, 33]
def isTwo (l : List UInt8) : Bool := twosL.any (fun t => t.isPrefixOf l)

/-- The kind, the size and the error of the first token. -/
def numberL (l : List UInt8) : Nat × Nat × Nat := if numV (l.take (runL dig l)) ≤ 9223372036854775807 ∧ runL dig l ≤ 19 then (1, runL dig l, 0) else (0, 0, 12)
def nameL (l : List UInt8) : Nat × Nat × Nat := if isWord (l.take (runL nmc l)) then (4, runL nmc l, 0) else if 8 < runL nmc l then (0, 0, 13) else (3, runL nmc l, 0)
def textL (r : List UInt8) : Nat × Nat × Nat := if r[runL txc r]? = some 34 then (if 12 < runL txc r then (0, 0, 4) else (2, runL txc r + 2, 0)) else (0, 0, 11)
def signL (l : List UInt8) : Nat × Nat × Nat := if isTwo l then (5, 2, 0) else if onesL.contains (l.headD 0) then (5, 1, 0) else (0, 0, 10)
def firstL (l : List UInt8) : Nat × Nat × Nat :=
  if dig (l.headD 0) then numberL l else if ltr (l.headD 0) then nameL l else if l.headD 0 = 34 then textL l.tail else signL l

theorem firstL_cons (c : UInt8) (r : List UInt8) : firstL (c :: r) = if dig c then numberL (c :: r) else if ltr c then nameL (c :: r) else if c = 34 then textL r else signL (c :: r) := rfl
theorem signL_cons (c : UInt8) (r : List UInt8) : signL (c :: r) = if isTwo (c :: r) then (5, 2, 0) else if onesL.contains c then (5, 1, 0) else (0, 0, 10) := rfl

/-- What a token says. -/
def saidL (k : Nat) (l : List UInt8) : List UInt8 := if k = 2 then (l.take (l.length - 1)).drop 1 else l

structure Tok where
  k : Nat
  x : List UInt8
  p : Nat

instance : Inhabited Tok := ⟨⟨0, [], 0⟩⟩

def isRem (l : List UInt8) : Bool := ([47, 47] : List UInt8).isPrefixOf l

/-- The tokens of what is left, from a place on; and where it fails, and how. -/
def lexF : Nat → List UInt8 → Nat → List Tok × Option (Nat × Nat)
  | 0, l, p => ([⟨0, [], p⟩], none)
  | n + 1, [], p => ([⟨0, [], p⟩], none)
  | n + 1, c :: r, p =>
    if blk c then lexF n r (p + 1)
    else if isRem (c :: r) then
      (if runL (fun d => !decide (d = 10)) (c :: r) = (c :: r).length then ([⟨0, [], p + (c :: r).length⟩], none)
       else lexF n ((c :: r).drop (runL (fun d => !decide (d = 10)) (c :: r))) (p + runL (fun d => !decide (d = 10)) (c :: r)))
    else if (firstL (c :: r)).2.2 = 0 then
      (⟨(firstL (c :: r)).1, saidL (firstL (c :: r)).1 ((c :: r).take (firstL (c :: r)).2.1), p⟩ :: (lexF n ((c :: r).drop (firstL (c :: r)).2.1) (p + (firstL (c :: r)).2.1)).1,
       (lexF n ((c :: r).drop (firstL (c :: r)).2.1) (p + (firstL (c :: r)).2.1)).2)
    else ([], some (p, (firstL (c :: r)).2.2))

def lexL (l : List UInt8) (p : Nat) : List Tok × Option (Nat × Nat) := lexF l.length l p

theorem first_size (l : List UInt8) (hl : l ≠ []) (h : (firstL l).2.2 = 0) : 1 ≤ (firstL l).2.1 ∧ (firstL l).2.1 ≤ l.length := by
  obtain ⟨c, r, rfl⟩ := List.exists_cons_of_ne_nil hl
  rw [firstL_cons] at h ⊢
  by_cases h1 : dig c = true
  · rw [if_pos h1] at h ⊢
    have hr : runL dig (c :: r) = runL dig r + 1 := by show (if dig c then _ else 0) = _; rw [if_pos h1]
    have := runL_le dig (c :: r)
    unfold numberL at h ⊢
    split at h
    · rename_i hc
      rw [if_pos hc]
      show 1 ≤ runL dig (c :: r) ∧ runL dig (c :: r) ≤ _
      omega
    · cases h
  · rw [if_neg h1] at h ⊢
    by_cases h2 : ltr c = true
    · rw [if_pos h2] at h ⊢
      have hn : nmc c = true := by unfold nmc; rw [h2]; rfl
      have hr : runL nmc (c :: r) = runL nmc r + 1 := by show (if nmc c then _ else 0) = _; rw [if_pos hn]
      have := runL_le nmc (c :: r)
      unfold nameL at h ⊢
      split at h
      · rename_i hc
        rw [if_pos hc]
        show 1 ≤ runL nmc (c :: r) ∧ runL nmc (c :: r) ≤ _
        omega
      · rename_i hc
        rw [if_neg hc]
        split at h
        · cases h
        · rename_i hc
          rw [if_neg hc]
          show 1 ≤ runL nmc (c :: r) ∧ runL nmc (c :: r) ≤ _
          omega
    · rw [if_neg h2] at h ⊢
      by_cases h3 : c = 34
      · rw [if_pos h3] at h ⊢
        unfold textL at h ⊢
        split at h
        · rename_i hc
          rw [if_pos hc]
          split at h
          · cases h
          · rename_i hd
            rw [if_neg hd]
            have : runL txc r < r.length := (List.getElem?_eq_some_iff.1 hc).1
            show 1 ≤ runL txc r + 2 ∧ runL txc r + 2 ≤ (c :: r).length
            rw [List.length_cons]
            omega
        · cases h
      · rw [if_neg h3] at h ⊢
        rw [signL_cons] at h ⊢
        split at h
        · rename_i hc
          rw [if_pos hc]
          refine ⟨by decide, ?_⟩
          show 2 ≤ (c :: r).length
          unfold isTwo at hc
          rw [List.any_eq_true] at hc
          obtain ⟨t, ht, hp⟩ := hc
          have h5 : t.length = 2 := by
            simp only [twosL, List.mem_cons, List.not_mem_nil, or_false] at ht
            rcases ht with rfl | rfl | rfl | rfl | rfl <;> rfl
          have h6 := (List.isPrefixOf_iff_prefix.1 hp).length_le
          omega
        · rename_i hc
          rw [if_neg hc]
          split at h
          · rename_i hd
            rw [if_pos hd]
            refine ⟨Nat.le_refl _, ?_⟩
            show 1 ≤ (c :: r).length
            rw [List.length_cons]
            omega
          · cases h

theorem rem_size (l : List UInt8) (h : isRem l = true) : 2 ≤ runL (fun d => !decide (d = 10)) l := by
  unfold isRem at h
  obtain ⟨t, rfl⟩ := List.isPrefixOf_iff_prefix.1 h
  rw [runL_append _ _ _ (by decide)]
  simp

theorem lexF_fuel (n m : Nat) (l : List UInt8) (p : Nat) (hn : l.length ≤ n) (hm : l.length ≤ m) : lexF n l p = lexF m l p := by
  induction n generalizing m l p with
  | zero =>
    have : l = [] := List.length_eq_zero_iff.1 (by omega)
    subst this
    cases m <;> rfl
  | succ n ih =>
    cases l with
    | nil => cases m <;> rfl
    | cons c r =>
      cases m with
      | zero => simp at hm
      | succ m =>
        simp only [List.length_cons] at hn hm
        unfold lexF
        by_cases h1 : blk c = true
        · rw [if_pos h1, if_pos h1, ih m r (p + 1) (by omega) (by omega)]
        · rw [if_neg h1, if_neg h1]
          by_cases h2 : isRem (c :: r) = true
          · rw [if_pos h2, if_pos h2]
            have := rem_size _ h2
            split
            · rfl
            · exact ih m _ _ (by rw [List.length_drop, List.length_cons]; omega) (by rw [List.length_drop, List.length_cons]; omega)
          · rw [if_neg h2, if_neg h2]
            by_cases h3 : (firstL (c :: r)).2.2 = 0
            · have h4 := first_size (c :: r) (by simp) h3
              rw [if_pos h3, if_pos h3, ih m _ _ (by rw [List.length_drop, List.length_cons]; omega) (by rw [List.length_drop, List.length_cons]; omega)]
            · rw [if_neg h3, if_neg h3]

theorem lexL_nil (p : Nat) : lexL [] p = ([⟨0, [], p⟩], none) := rfl
theorem lexL_blank {c : UInt8} {r : List UInt8} {p : Nat} (h : blk c = true) : lexL (c :: r) p = lexL r (p + 1) := by
  unfold lexL
  rw [List.length_cons]
  conv => lhs; unfold lexF
  rw [if_pos h]
theorem lexL_rem_end {c : UInt8} {r : List UInt8} {p : Nat} (h0 : blk c = false) (h : isRem (c :: r) = true) (he : runL (fun d => !decide (d = 10)) (c :: r) = (c :: r).length) : lexL (c :: r) p = ([⟨0, [], p + (c :: r).length⟩], none) := by
  unfold lexL
  rw [List.length_cons]
  conv => lhs; unfold lexF
  rw [if_neg (by rw [h0]; decide), if_pos h, if_pos he]
  rfl
theorem lexL_rem {c : UInt8} {r : List UInt8} {p : Nat} (h0 : blk c = false) (h : isRem (c :: r) = true) (he : ¬ runL (fun d => !decide (d = 10)) (c :: r) = (c :: r).length) :
    lexL (c :: r) p = lexL ((c :: r).drop (runL (fun d => !decide (d = 10)) (c :: r))) (p + runL (fun d => !decide (d = 10)) (c :: r)) := by
  have h2 := rem_size _ h
  unfold lexL
  rw [List.length_cons]
  conv => lhs; unfold lexF
  rw [if_neg (by rw [h0]; decide), if_pos h, if_neg he]
  exact lexF_fuel _ _ _ _ (by rw [List.length_drop, List.length_cons]; omega) (Nat.le_refl _)
theorem lexL_bad {c : UInt8} {r : List UInt8} {p : Nat} (h0 : blk c = false) (h : isRem (c :: r) = false) (he : ¬ (firstL (c :: r)).2.2 = 0) : lexL (c :: r) p = ([], some (p, (firstL (c :: r)).2.2)) := by
  unfold lexL
  rw [List.length_cons]
  conv => lhs; unfold lexF
  rw [if_neg (by rw [h0]; decide), if_neg (by rw [h]; decide), if_neg he]
theorem lexL_tok {c : UInt8} {r : List UInt8} {p : Nat} (h0 : blk c = false) (h : isRem (c :: r) = false) (he : (firstL (c :: r)).2.2 = 0) :
    lexL (c :: r) p = (⟨(firstL (c :: r)).1, saidL (firstL (c :: r)).1 ((c :: r).take (firstL (c :: r)).2.1), p⟩ :: (lexL ((c :: r).drop (firstL (c :: r)).2.1) (p + (firstL (c :: r)).2.1)).1,
       (lexL ((c :: r).drop (firstL (c :: r)).2.1) (p + (firstL (c :: r)).2.1)).2) := by
  have h2 := first_size (c :: r) (by simp) he
  unfold lexL
  rw [List.length_cons]
  conv => lhs; unfold lexF
  rw [if_neg (by rw [h0]; decide), if_neg (by rw [h]; decide), if_pos he, lexF_fuel r.length ((c :: r).drop (firstL (c :: r)).2.1).length _ _ (by rw [List.length_drop, List.length_cons]; omega) (Nat.le_refl _)]

end Go.Proofs.YtgelggdgbmldiaaGreatDoor

namespace Go.Proofs.YtgelggdgbmldiaaGreatDoor
set_option linter.unusedVariables false
set_option linter.unusedSimpArgs false

/-- How a source goes on. -/
theorem lexL_ind {P : List UInt8 → Nat → Prop} (hnil : ∀ p, P [] p) (hblk : ∀ c r p, blk c = true → P r (p + 1) → P (c :: r) p)
    (hend : ∀ c r p, blk c = false → isRem (c :: r) = true → runL (fun d => !decide (d = 10)) (c :: r) = (c :: r).length → P (c :: r) p)
    (hrem : ∀ c r p, blk c = false → isRem (c :: r) = true → ¬ runL (fun d => !decide (d = 10)) (c :: r) = (c :: r).length → P ((c :: r).drop (runL (fun d => !decide (d = 10)) (c :: r))) (p + runL (fun d => !decide (d = 10)) (c :: r)) → P (c :: r) p)
    (hbad : ∀ c r p, blk c = false → isRem (c :: r) = false → ¬ (firstL (c :: r)).2.2 = 0 → P (c :: r) p)
    (htok : ∀ c r p, blk c = false → isRem (c :: r) = false → (firstL (c :: r)).2.2 = 0 → P ((c :: r).drop (firstL (c :: r)).2.1) (p + (firstL (c :: r)).2.1) → P (c :: r) p) (l : List UInt8) (p : Nat) : P l p := by
  obtain ⟨n, hn⟩ : ∃ n, n = l.length := ⟨_, rfl⟩
  induction n using Nat.strongRecOn generalizing l p with
  | ind n ih =>
    cases l with
    | nil => exact hnil p
    | cons c r =>
      rw [List.length_cons] at hn
      cases h0 : blk c with
      | true => exact hblk c r p h0 (ih r.length (by omega) r _ rfl)
      | false =>
        cases h1 : isRem (c :: r) with
        | true =>
          have h2 := rem_size _ h1
          by_cases h3 : runL (fun d => !decide (d = 10)) (c :: r) = (c :: r).length
          · exact hend c r p h0 h1 h3
          · exact hrem c r p h0 h1 h3 (ih _ (by rw [List.length_drop, List.length_cons]; omega) _ _ rfl)
        | false =>
          by_cases h3 : (firstL (c :: r)).2.2 = 0
          · have h4 := first_size (c :: r) (by simp) h3
            exact htok c r p h0 h1 h3 (ih _ (by rw [List.length_drop, List.length_cons]; omega) _ _ rfl)
          · exact hbad c r p h0 h1 h3

def Tok.up (d : Nat) (t : Tok) : Tok := ⟨t.k, t.x, t.p + d⟩

theorem lexL_shift (d : Nat) (l : List UInt8) (p : Nat) : lexL l (p + d) = ((lexL l p).1.map (Tok.up d), (lexL l p).2.map (fun q => (q.1 + d, q.2))) := by
  refine lexL_ind (P := fun l p => lexL l (p + d) = ((lexL l p).1.map (Tok.up d), (lexL l p).2.map (fun q => (q.1 + d, q.2)))) ?_ ?_ ?_ ?_ ?_ ?_ l p
  · intro p; rfl
  · intro c r p h ih
    rw [lexL_blank h, lexL_blank h, show p + d + 1 = p + 1 + d by omega]
    exact ih
  · intro c r p h h1 h2
    rw [lexL_rem_end h h1 h2, lexL_rem_end h h1 h2]
    simp [Tok.up]
    omega
  · intro c r p h h1 h2 ih
    rw [lexL_rem h h1 h2, lexL_rem h h1 h2, show p + d + runL (fun d => !decide (d = 10)) (c :: r) = p + runL (fun d => !decide (d = 10)) (c :: r) + d by omega]
    exact ih
  · intro c r p h h1 h2
    rw [lexL_bad h h1 h2, lexL_bad h h1 h2]
    rfl
  · intro c r p h h1 h2 ih
    rw [lexL_tok h h1 h2, lexL_tok h h1 h2, show p + d + (firstL (c :: r)).2.1 = p + (firstL (c :: r)).2.1 + d by omega, ih]
    rfl

theorem isTwo_take (l : List UInt8) (n : Nat) (hn : 2 ≤ n) : isTwo (l.take n) = isTwo l := by
  rw [Bool.eq_iff_iff]
  unfold isTwo
  rw [List.any_eq_true, List.any_eq_true]
  constructor
  · rintro ⟨t, ht, hp⟩
    exact ⟨t, ht, List.isPrefixOf_iff_prefix.2 ((List.isPrefixOf_iff_prefix.1 hp).trans (List.take_prefix _ _))⟩
  · rintro ⟨t, ht, hp⟩
    have h5 : t.length = 2 := by
      simp only [twosL, List.mem_cons, List.not_mem_nil, or_false] at ht
      rcases ht with rfl | rfl | rfl | rfl | rfl <;> rfl
    exact ⟨t, ht, List.isPrefixOf_iff_prefix.2 (List.prefix_take_iff.2 ⟨List.isPrefixOf_iff_prefix.1 hp, by omega⟩)⟩
theorem isTwo_of_take {l : List UInt8} {n : Nat} (h : isTwo (l.take n) = true) : isTwo l = true := by
  unfold isTwo at h ⊢
  rw [List.any_eq_true] at h ⊢
  obtain ⟨t, ht, hp⟩ := h
  exact ⟨t, ht, List.isPrefixOf_iff_prefix.2 ((List.isPrefixOf_iff_prefix.1 hp).trans (List.take_prefix _ _))⟩
theorem isRem_of_take {l : List UInt8} {n : Nat} (h : isRem (l.take n) = true) : isRem l = true :=
  List.isPrefixOf_iff_prefix.2 ((List.isPrefixOf_iff_prefix.1 h).trans (List.take_prefix _ _))
theorem isRem_take {l : List UInt8} {n : Nat} (hn : 2 ≤ n) (h : isRem l = true) : isRem (l.take n) = true :=
  List.isPrefixOf_iff_prefix.2 (List.prefix_take_iff.2 ⟨List.isPrefixOf_iff_prefix.1 h, hn⟩)

/-- A token is the same where the source is cut behind it. -/
theorem first_take (l : List UInt8) (n : Nat) (hl : l ≠ []) (h : (firstL l).2.2 = 0) (hn : (firstL l).2.1 ≤ n) : firstL (l.take n) = firstL l := by
  have hs := first_size l hl h
  obtain ⟨c, r, rfl⟩ := List.exists_cons_of_ne_nil hl
  obtain ⟨m, rfl⟩ : ∃ m, n = m + 1 := ⟨n - 1, by omega⟩
  rw [List.take_succ_cons]
  rw [firstL_cons] at h hn hs
  rw [firstL_cons, firstL_cons]
  by_cases h1 : dig c = true
  · rw [if_pos h1] at h hn hs ⊢
    rw [if_pos h1]
    unfold numberL at h hn ⊢
    split at h
    · rename_i hc
      rw [if_pos hc] at hn
      have hn : runL dig (c :: r) ≤ m + 1 := hn
      have e := runL_take dig (c :: r) (m + 1) hn
      rw [List.take_succ_cons] at e
      rw [e, ← List.take_succ_cons, List.take_take, Nat.min_eq_left hn]
    · cases h
  · rw [if_neg h1] at h hn hs ⊢
    rw [if_neg h1]
    by_cases h2 : ltr c = true
    · rw [if_pos h2] at h hn hs ⊢
      rw [if_pos h2]
      unfold nameL at h hn ⊢
      have hn : runL nmc (c :: r) ≤ m + 1 := by
        split at h
        · rename_i hc; rw [if_pos hc] at hn; exact hn
        · rename_i hc
          rw [if_neg hc] at hn
          split at h
          · cases h
          · rename_i hc; rw [if_neg hc] at hn; exact hn
      have e := runL_take nmc (c :: r) (m + 1) hn
      rw [List.take_succ_cons] at e
      rw [e, ← List.take_succ_cons, List.take_take, Nat.min_eq_left hn]
    · rw [if_neg h2] at h hn hs ⊢
      rw [if_neg h2]
      by_cases h3 : c = 34
      · rw [if_pos h3] at h hn hs ⊢
        rw [if_pos h3]
        unfold textL at h hn ⊢
        split at h
        · rename_i hc
          rw [if_pos hc] at hn
          split at h
          · cases h
          · rename_i hd
            rw [if_neg hd] at hn
            have hn : runL txc r + 2 ≤ m + 1 := hn
            have e := runL_take txc r m (by omega)
            rw [e, List.getElem?_take, if_pos (show runL txc r < m by omega)]
        · cases h
      · rw [if_neg h3] at h hn hs ⊢
        rw [if_neg h3]
        rw [signL_cons] at h hn
        rw [signL_cons, signL_cons]
        by_cases h4 : isTwo (c :: r) = true
        · rw [if_pos h4] at hn
          have hn : 2 ≤ m + 1 := hn
          have e := isTwo_take (c :: r) (m + 1) hn
          rw [List.take_succ_cons] at e
          rw [e]
        · rw [if_neg h4]
          rw [if_neg (fun h => h4 (isTwo_of_take (n := m + 1) (by rw [List.take_succ_cons]; exact h)))]

theorem first_errs (l : List UInt8) (h : ¬ (firstL l).2.2 = 0) : (firstL l).2.2 = 10 ∨ (firstL l).2.2 = 11 ∨ (firstL l).2.2 = 12 ∨ (firstL l).2.2 = 13 ∨ (firstL l).2.2 = 4 := by
  unfold firstL numberL nameL textL signL at h ⊢
  repeat' split
  all_goals simp_all

/-- Where a source fails, it has tokens ahead. -/
theorem lexL_cut (l : List UInt8) (p : Nat) : ∀ q e, (lexL l p).2 = some (q, e) → p ≤ q ∧ q < p + l.length ∧ (lexL (l.take (q - p)) p).2 = none ∧ (e = 10 ∨ e = 11 ∨ e = 12 ∨ e = 13 ∨ e = 4) := by
  refine lexL_ind (P := fun l p => ∀ q e, (lexL l p).2 = some (q, e) → p ≤ q ∧ q < p + l.length ∧ (lexL (l.take (q - p)) p).2 = none ∧ (e = 10 ∨ e = 11 ∨ e = 12 ∨ e = 13 ∨ e = 4)) ?_ ?_ ?_ ?_ ?_ ?_ l p
  · intro p q e h
    rw [lexL_nil] at h
    cases h
  · intro c r p h ih q e hq
    rw [lexL_blank h] at hq
    obtain ⟨h1, h2, h3, h4⟩ := ih q e hq
    refine ⟨by omega, by rw [List.length_cons]; omega, ?_, h4⟩
    obtain ⟨m, hm⟩ : ∃ m, q - p = m + 1 := ⟨q - p - 1, by omega⟩
    rw [hm, List.take_succ_cons, lexL_blank h, ← show q - (p + 1) = m by omega]
    exact h3
  · intro c r p h h1 h2 q e hq
    rw [lexL_rem_end h h1 h2] at hq
    cases hq
  · intro c r p h h1 h2 ih q e hq
    rw [lexL_rem h h1 h2] at hq
    obtain ⟨k1, k2, k3, k4⟩ := ih q e hq
    have hz := rem_size _ h1
    have hle := runL_le (fun d => !decide (d = 10)) (c :: r)
    obtain ⟨z, hzz⟩ : ∃ z, z = runL (fun d => !decide (d = 10)) (c :: r) := ⟨_, rfl⟩
    rw [← hzz] at h2 k1 k2 k3 hz hle
    rw [List.length_drop] at k2
    refine ⟨by omega, by omega, ?_, k4⟩
    obtain ⟨m, hm⟩ : ∃ m, q - p = m + 1 := ⟨q - p - 1, by omega⟩
    have h1' : isRem (c :: r.take m) = true := by rw [← List.take_succ_cons]; exact isRem_take (by omega) h1
    have e := runL_take (fun d => !decide (d = 10)) (c :: r) (m + 1) (by omega)
    rw [List.take_succ_cons, ← hzz] at e
    rw [hm, List.take_succ_cons]
    by_cases hlast : z = (c :: r.take m).length
    · rw [lexL_rem_end h h1' (by rw [e]; exact hlast)]
    · rw [lexL_rem h h1' (by rw [e]; exact hlast), e]
      have : (c :: r.take m).drop z = ((c :: r).drop z).take (q - (p + z)) := by
        rw [← List.take_succ_cons, List.drop_take]
        congr 1
        omega
      rw [this]
      exact k3
  · intro c r p h h1 h2 q e hq
    rw [lexL_bad h h1 h2] at hq
    obtain ⟨rfl, rfl⟩ : p = q ∧ (firstL (c :: r)).2.2 = e := by
      have := Option.some.inj hq
      exact ⟨congrArg Prod.fst this, congrArg Prod.snd this⟩
    refine ⟨Nat.le_refl _, by rw [List.length_cons]; omega, ?_, first_errs _ h2⟩
    rw [Nat.sub_self]
    rfl
  · intro c r p h h1 h2 ih q e hq
    rw [lexL_tok h h1 h2] at hq
    obtain ⟨k1, k2, k3, k4⟩ := ih q e hq
    have hz := first_size (c :: r) (by simp) h2
    obtain ⟨m, hm⟩ : ∃ m, q - p = m + 1 := ⟨q - p - 1, by omega⟩
    have hf := first_take (c :: r) (m + 1) (by simp) h2 (by omega)
    rw [List.take_succ_cons] at hf
    have h1' : isRem (c :: r.take m) = false := by
      cases hh : isRem (c :: r.take m) with
      | false => rfl
      | true =>
        rw [← List.take_succ_cons] at hh
        rw [isRem_of_take hh] at h1
        cases h1
    rw [List.length_drop] at k2
    refine ⟨by omega, by omega, ?_, k4⟩
    rw [hm, List.take_succ_cons, lexL_tok h h1' (by rw [hf]; exact h2), hf]
    have : (c :: r.take m).drop (firstL (c :: r)).2.1 = ((c :: r).drop (firstL (c :: r)).2.1).take (q - (p + (firstL (c :: r)).2.1)) := by
      rw [← List.take_succ_cons, List.drop_take]
      congr 1
      omega
    rw [this]
    exact k3

end Go.Proofs.YtgelggdgbmldiaaGreatDoor

namespace Go.Proofs.YtgelggdgbmldiaaGreatDoor
set_option linter.unusedVariables false
set_option linter.unusedSimpArgs false

/-- A token's bytes. -/
def tokB (t : Tok) : List UInt8 := if t.k = 2 then 34 :: (t.x ++ [34]) else t.x

/-- What follows does not belong to it. -/
def Apart (rest : List UInt8) : Prop := rest = [] ∨ ∃ r, rest = 32 :: r

structure GoodTok (t : Tok) : Prop where
  ne : tokB t ≠ []
  first : ∀ rest, Apart rest → firstL (tokB t ++ rest) = (t.k, (tokB t).length, 0)
  nblk : ∀ c r, tokB t = c :: r → blk c = false
  nrem : ∀ rest, Apart rest → isRem (tokB t ++ rest) = false
  said : saidL t.k (tokB t) = t.x
  kind : t.k = 1 ∨ t.k = 2 ∨ t.k = 3 ∨ t.k = 4 ∨ t.k = 5
  word : t.k = 2 ∨ (t.k = 4 ↔ isWord t.x = true)

theorem run_apart (p : UInt8 → Bool) (hp : p 32 = false) {rest : List UInt8} (h : Apart rest) : runL p rest = 0 := by
  rcases h with rfl | ⟨r, rfl⟩
  · rfl
  · exact runL_cons_false p _ _ hp

theorem rem_head {c : UInt8} {r : List UInt8} (h : isRem (c :: r) = true) : c = 47 := by
  obtain ⟨t, e⟩ := List.isPrefixOf_iff_prefix.1 h
  have := congrArg List.head? e
  simp at this
  exact this.symm

theorem word_head {l : List UInt8} (h : isWord l = true) : ∃ c r, l = c :: r ∧ ltr c = true := by
  unfold isWord at h
  rw [List.contains_iff_mem] at h
  simp only [wordsL, List.mem_cons, List.not_mem_nil, or_false] at h
  rcases h with rfl | rfl | rfl | rfl | rfl | rfl | rfl | rfl | rfl | rfl | rfl | rfl | rfl | rfl | rfl | rfl <;> exact ⟨_, _, rfl, by decide⟩

theorem good_number {c : UInt8} {r : List UInt8} (p : Nat) (h0 : blk c = false) (h1 : dig c = true) (he : (numberL (c :: r)).2.2 = 0) :
    GoodTok ⟨1, (c :: r).take (runL dig (c :: r)), p⟩ ∧ numberL (c :: r) = (1, runL dig (c :: r), 0) := by
  have hr : runL dig (c :: r) = runL dig r + 1 := by show (if dig c then _ else 0) = _; rw [if_pos h1]
  have hall := runL_all dig (c :: r)
  have hle := runL_le dig (c :: r)
  unfold numberL at he ⊢
  split at he
  · rename_i hc
    rw [if_pos hc]
    refine ⟨?_, rfl⟩
    obtain ⟨z, hz⟩ : ∃ z, z = runL dig (c :: r) := ⟨_, rfl⟩
    rw [← hz] at hr hall hle hc ⊢
    obtain ⟨b, hb⟩ : ∃ b, b = (c :: r).take z := ⟨_, rfl⟩
    have hbl : b.length = z := by rw [hb, List.length_take]; omega
    have hbc : ∃ b', b = c :: b' := ⟨r.take (runL dig r), by rw [hb, hr, List.take_succ_cons]⟩
    rw [← hb] at hall hc ⊢
    obtain ⟨b', hb'⟩ := hbc
    have ht : tokB ⟨1, b, p⟩ = b := rfl
    have hc47 : c ≠ 47 := fun e => by rw [e] at h1; revert h1; decide
    refine ⟨by rw [ht, hb']; simp, fun rest hrest => ?_, fun c' r' e => ?_, fun rest hrest => ?_, ?_, .inl rfl, .inr ⟨(fun h => by cases h), fun h => ?_⟩⟩
    · rw [ht]
      have hrun : runL dig (b ++ rest) = z := by rw [runL_append dig b rest hall, run_apart dig (by decide) hrest, hbl]; rfl
      unfold firstL
      rw [show (b ++ rest).headD 0 = c by rw [hb']; rfl, if_pos h1]
      unfold numberL
      rw [hrun, List.take_left' hbl, if_pos hc, hbl]
    · rw [ht, hb'] at e
      injection e with e1 e2
      rw [← e1]; exact h0
    · rw [ht, hb']
      cases h : isRem (c :: b' ++ rest) with
      | false => rfl
      | true => exact absurd (rem_head h) hc47
    · rfl
    · obtain ⟨d, q, e, hd⟩ := word_head h
      have e : b = d :: q := e
      rw [hb'] at e
      injection e with e1 e2
      rw [← e1] at hd
      exfalso
      unfold ltr at hd; unfold dig at h1
      simp at hd h1
      omega
  · cases he

theorem good_name {c : UInt8} {r : List UInt8} (p : Nat) (h0 : blk c = false) (h1 : dig c = false) (h2 : ltr c = true) (he : (nameL (c :: r)).2.2 = 0) :
    GoodTok ⟨(nameL (c :: r)).1, (c :: r).take (runL nmc (c :: r)), p⟩ ∧ (nameL (c :: r)).2.1 = runL nmc (c :: r) ∧ ((nameL (c :: r)).1 = 3 ∨ (nameL (c :: r)).1 = 4) := by
  have hn : nmc c = true := by unfold nmc; rw [h2]; rfl
  have hr : runL nmc (c :: r) = runL nmc r + 1 := by show (if nmc c then _ else 0) = _; rw [if_pos hn]
  have hall := runL_all nmc (c :: r)
  have hle := runL_le nmc (c :: r)
  obtain ⟨z, hz⟩ : ∃ z, z = runL nmc (c :: r) := ⟨_, rfl⟩
  obtain ⟨b, hb⟩ : ∃ b, b = (c :: r).take z := ⟨_, rfl⟩
  have key : ∀ k, nameL (c :: r) = (k, z, 0) → (k = 3 ∨ k = 4) → (k = 4 ↔ isWord b = true) → (k = 3 → ¬ 8 < z) → GoodTok ⟨k, b, p⟩ := by
    intro k hk hk2 hk3 hk4
    rw [← hz] at hr hall hle
    have hbl : b.length = z := by rw [hb, List.length_take]; omega
    have hbc : ∃ b', b = c :: b' := ⟨r.take (runL nmc r), by rw [hb, hr, List.take_succ_cons]⟩
    rw [← hb] at hall
    obtain ⟨b', hb'⟩ := hbc
    have hk2' : ¬ k = 2 := by omega
    have ht : tokB ⟨k, b, p⟩ = b := by unfold tokB; rw [if_neg hk2']
    have hc47 : c ≠ 47 := fun e => by rw [e] at h2; revert h2; decide
    refine ⟨by rw [ht, hb']; simp, fun rest hrest => ?_, fun c' r' e => ?_, fun rest hrest => ?_, ?_, by show k = 1 ∨ k = 2 ∨ k = 3 ∨ k = 4 ∨ k = 5; omega, .inr hk3⟩
    · rw [ht]
      have hrun : runL nmc (b ++ rest) = z := by rw [runL_append nmc b rest hall, run_apart nmc (by decide) hrest, hbl]; rfl
      unfold firstL
      rw [show (b ++ rest).headD 0 = c by rw [hb']; rfl, if_neg (by rw [h1]; decide), if_pos h2]
      unfold nameL
      rw [hrun, List.take_left' hbl, hbl]
      rcases hk2 with rfl | rfl
      · rw [if_neg (fun h => by have := hk3.2 h; omega), if_neg (hk4 rfl)]
      · rw [if_pos (hk3.1 rfl)]
    · rw [ht, hb'] at e
      injection e with e1 e2
      rw [← e1]; exact h0
    · rw [ht, hb']
      cases h : isRem (c :: b' ++ rest) with
      | false => rfl
      | true => exact absurd (rem_head h) hc47
    · rw [ht]; unfold saidL; rw [if_neg hk2']
  unfold nameL at he ⊢
  rw [← hz, ← hb] at he ⊢
  split at he
  · rename_i hc
    rw [if_pos hc]
    exact ⟨key 4 (by unfold nameL; rw [← hz, ← hb, if_pos hc]) (.inr rfl) ⟨fun _ => hc, fun _ => rfl⟩ (fun h => by cases h), rfl, .inr rfl⟩
  · rename_i hc
    rw [if_neg hc]
    split at he
    · cases he
    · rename_i hd
      rw [if_neg hd]
      exact ⟨key 3 (by unfold nameL; rw [← hz, ← hb, if_neg hc, if_neg hd]) (.inl rfl) ⟨(fun h => by cases h), fun h => absurd h hc⟩ (fun _ => hd), rfl, .inl rfl⟩

theorem good_text {r : List UInt8} (p : Nat) (he : (textL r).2.2 = 0) :
    GoodTok ⟨2, r.take (runL txc r), p⟩ ∧ textL r = (2, runL txc r + 2, 0) ∧ (34 :: r).take (runL txc r + 2) = 34 :: (r.take (runL txc r) ++ [34]) := by
  have hall := runL_all txc r
  obtain ⟨z, hz⟩ : ∃ z, z = runL txc r := ⟨_, rfl⟩
  unfold textL at he ⊢
  rw [← hz] at he hall ⊢
  split at he
  · rename_i hc
    rw [if_pos hc]
    split at he
    · cases he
    · rename_i hd
      rw [if_neg hd]
      obtain ⟨hlt, hg⟩ := List.getElem?_eq_some_iff.1 hc
      have htk : (34 :: r).take (z + 2) = 34 :: (r.take z ++ [34]) := by
        rw [List.take_succ_cons, List.take_succ_eq_append_getElem hlt, hg]
      obtain ⟨b, hb⟩ : ∃ b, b = r.take z := ⟨_, rfl⟩
      have hbl : b.length = z := by rw [hb, List.length_take]; omega
      rw [← hb] at hall htk ⊢
      refine ⟨?_, rfl, htk⟩
      have ht : tokB ⟨2, b, p⟩ = 34 :: (b ++ [34]) := rfl
      refine ⟨by rw [ht]; simp, fun rest hrest => ?_, fun c' r' e => ?_, fun rest hrest => ?_, ?_, .inr (.inl rfl), .inl rfl⟩
      · rw [ht]
        have hrun : runL txc (b ++ [34] ++ rest) = z := by
          rw [List.append_assoc, runL_append txc b _ hall, hbl]
          show z + runL txc (34 :: rest) = z
          rw [runL_cons_false _ _ _ (by decide)]
          rfl
        show firstL ((34 : UInt8) :: (b ++ [34] ++ rest)) = _
        rw [firstL_cons, if_neg (by decide), if_neg (by decide), if_pos rfl]
        unfold textL
        rw [hrun, if_pos (by rw [List.append_assoc, List.getElem?_append_right (by omega), hbl]; simp), if_neg hd, List.length_cons, List.length_append, hbl]
        rfl
      · rw [ht] at e
        injection e with e1 e2
        rw [← e1]; decide
      · rw [ht]
        cases h : isRem (34 :: (b ++ [34]) ++ rest) with
        | false => rfl
        | true => have := rem_head h; revert this; decide
      · rw [ht]
        unfold saidL
        rw [if_pos rfl]
        simp [List.take_succ_cons, hbl]
  · cases he

theorem good_sign {c : UInt8} {r : List UInt8} (p : Nat) (h0 : blk c = false) (hrem : isRem (c :: r) = false) (h1 : dig c = false) (h2 : ltr c = false) (h3 : ¬ c = 34) (he : (signL (c :: r)).2.2 = 0) :
    GoodTok ⟨5, (c :: r).take (signL (c :: r)).2.1, p⟩ ∧ (signL (c :: r)).1 = 5 := by
  rw [signL_cons] at he ⊢
  by_cases h4 : isTwo (c :: r) = true
  · rw [if_pos h4]
    refine ⟨?_, rfl⟩
    have h5 := h4
    unfold isTwo at h5
    rw [List.any_eq_true] at h5
    obtain ⟨t, ht, hp⟩ := h5
    have ht' := ht
    obtain ⟨s, hs⟩ := List.isPrefixOf_iff_prefix.1 hp
    have hl : t.length = 2 := by
      simp only [twosL, List.mem_cons, List.not_mem_nil, or_false] at ht
      rcases ht with rfl | rfl | rfl | rfl | rfl <;> rfl
    show GoodTok ⟨5, (c :: r).take 2, p⟩
    have hb : (c :: r).take 2 = t := by rw [← hs, List.take_left' hl]
    rw [hb]
    have htok : tokB ⟨5, t, p⟩ = t := rfl
    have hw : isWord t = false ∧ t ≠ [] ∧ (∀ c' r', t = c' :: r' → blk c' = false ∧ c' ≠ 47 ∧ dig c' = false ∧ ltr c' = false ∧ ¬ c' = 34) := by
      simp only [twosL, List.mem_cons, List.not_mem_nil, or_false] at ht'
      rcases ht' with rfl | rfl | rfl | rfl | rfl <;> exact ⟨by decide, by simp, fun c' r' e => by injection e with e1 _; rw [← e1]; decide⟩
    obtain ⟨c', r', hcr⟩ := List.exists_cons_of_ne_nil hw.2.1
    obtain ⟨q0, q1, q2, q3, q4⟩ := hw.2.2 c' r' hcr
    refine ⟨hw.2.1, fun rest hrest => ?_, fun c' r' e => (hw.2.2 c' r' e).1, fun rest hrest => ?_, rfl, .inr (.inr (.inr (.inr rfl))), .inr ⟨(fun h => by cases h), fun h => by
      rw [show isWord (({ k := 5, x := t, p := p } : Tok).x) = isWord t from rfl, hw.1] at h; cases h⟩⟩
    · rw [htok]
      unfold firstL
      rw [show (t ++ rest).headD 0 = c' by rw [hcr]; rfl, if_neg (by rw [q2]; decide), if_neg (by rw [q3]; decide), if_neg q4]
      unfold signL
      rw [if_pos (by unfold isTwo; rw [List.any_eq_true]; exact ⟨t, ht, List.isPrefixOf_iff_prefix.2 ⟨rest, rfl⟩⟩), hl]
    · rw [htok]
      cases h : isRem (t ++ rest) with
      | false => rfl
      | true =>
        rw [hcr, List.cons_append] at h
        exact absurd (rem_head h) q1
  · rw [if_neg h4] at he ⊢
    split at he
    · rename_i h5
      rw [if_pos h5]
      refine ⟨?_, rfl⟩
      show GoodTok ⟨5, [c], p⟩
      have htok : tokB ⟨5, [c], p⟩ = [c] := rfl
      refine ⟨by rw [htok]; simp, fun rest hrest => ?_, fun c' r' e => ?_, fun rest hrest => ?_, rfl, .inr (.inr (.inr (.inr rfl))), .inr ⟨(fun h => by cases h), fun h => ?_⟩⟩
      · rw [htok]
        show firstL (c :: rest) = (5, 1, 0)
        unfold firstL
        rw [List.headD_cons, if_neg (by rw [h1]; decide), if_neg (by rw [h2]; decide), if_neg h3]
        unfold signL
        rw [if_neg, List.headD_cons, if_pos h5]
        intro hh
        unfold isTwo at hh
        rw [List.any_eq_true] at hh
        obtain ⟨t, ht, hp⟩ := hh
        obtain ⟨s, hs⟩ := List.isPrefixOf_iff_prefix.1 hp
        simp only [twosL, List.mem_cons, List.not_mem_nil, or_false] at ht
        rcases hrest with rfl | ⟨q, rfl⟩ <;> rcases ht with rfl | rfl | rfl | rfl | rfl <;> simp at hs
      · rw [htok] at e
        injection e with e1 _
        rw [← e1]; exact h0
      · rw [htok]
        cases h : isRem ([c] ++ rest) with
        | false => rfl
        | true =>
          obtain ⟨s, hs⟩ := List.isPrefixOf_iff_prefix.1 h
          rcases hrest with rfl | ⟨q, rfl⟩ <;> simp at hs
      · obtain ⟨d, q, e, hd⟩ := word_head h
        injection e with e1 _
        rw [← e1, h2] at hd
        cases hd
    · cases he

/-- A token that a source begins with. -/
theorem first_good {c : UInt8} {r : List UInt8} (p : Nat) (h0 : blk c = false) (hrem : isRem (c :: r) = false) (he : (firstL (c :: r)).2.2 = 0) :
    GoodTok ⟨(firstL (c :: r)).1, saidL (firstL (c :: r)).1 ((c :: r).take (firstL (c :: r)).2.1), p⟩ ∧ tokB ⟨(firstL (c :: r)).1, saidL (firstL (c :: r)).1 ((c :: r).take (firstL (c :: r)).2.1), p⟩ = (c :: r).take (firstL (c :: r)).2.1 := by
  by_cases h1 : dig c = true
  · have e : firstL (c :: r) = numberL (c :: r) := by unfold firstL; rw [List.headD_cons, if_pos h1]
    rw [e] at he ⊢
    obtain ⟨g, e2⟩ := good_number p h0 h1 he
    rw [e2]
    exact ⟨g, rfl⟩
  have h1 : dig c = false := by simpa using h1
  by_cases h2 : ltr c = true
  · have e : firstL (c :: r) = nameL (c :: r) := by unfold firstL; rw [List.headD_cons, if_neg (by rw [h1]; decide), if_pos h2]
    rw [e] at he ⊢
    obtain ⟨g, e2, e3⟩ := good_name p h0 h1 h2 he
    rw [e2]
    obtain ⟨k, hk⟩ : ∃ k, k = (nameL (c :: r)).1 := ⟨_, rfl⟩
    rw [← hk] at g e3 ⊢
    have hk2 : ¬ k = 2 := by omega
    rw [show saidL k ((c :: r).take (runL nmc (c :: r))) = (c :: r).take (runL nmc (c :: r)) by unfold saidL; rw [if_neg hk2]]
    exact ⟨g, by unfold tokB; rw [if_neg hk2]⟩
  have h2 : ltr c = false := by simpa using h2
  by_cases h3 : c = 34
  · subst h3
    have e : firstL (34 :: r) = textL r := by unfold firstL; rw [List.headD_cons, if_neg (by decide), if_neg (by decide), if_pos rfl]; rfl
    rw [e] at he ⊢
    obtain ⟨g, e2, e3⟩ := good_text p he
    rw [e2]
    show GoodTok ⟨2, saidL 2 ((34 :: r).take (runL txc r + 2)), p⟩ ∧ tokB ⟨2, saidL 2 ((34 :: r).take (runL txc r + 2)), p⟩ = (34 :: r).take (runL txc r + 2)
    rw [e3]
    have hs : saidL 2 (34 :: (r.take (runL txc r) ++ [34])) = r.take (runL txc r) := g.said
    rw [hs]
    exact ⟨g, rfl⟩
  · have e : firstL (c :: r) = signL (c :: r) := by unfold firstL; rw [List.headD_cons, if_neg (by rw [h1]; decide), if_neg (by rw [h2]; decide), if_neg h3]
    rw [e] at he ⊢
    obtain ⟨g, e2⟩ := good_sign p h0 hrem h1 h2 h3 he
    rw [e2]
    exact ⟨g, rfl⟩

/-- All tokens but the last one. -/
theorem lexL_good (l : List UInt8) (p : Nat) : (lexL l p).2 = none → ∃ init, (lexL l p).1 = init ++ [⟨0, [], p + l.length⟩] ∧ ∀ t ∈ init, GoodTok t := by
  refine lexL_ind (P := fun l p => (lexL l p).2 = none → ∃ init, (lexL l p).1 = init ++ [⟨0, [], p + l.length⟩] ∧ ∀ t ∈ init, GoodTok t) ?_ ?_ ?_ ?_ ?_ ?_ l p
  · exact fun p _ => ⟨[], rfl, fun t h => by cases h⟩
  · intro c r p h ih hn
    rw [lexL_blank h] at hn ⊢
    obtain ⟨i, h1, h2⟩ := ih hn
    exact ⟨i, by rw [h1, List.length_cons, show p + 1 + r.length = p + (r.length + 1) by omega], h2⟩
  · intro c r p h h1 h2 hn
    rw [lexL_rem_end h h1 h2]
    exact ⟨[], rfl, fun t h => by cases h⟩
  · intro c r p h h1 h2 ih hn
    rw [lexL_rem h h1 h2] at hn ⊢
    obtain ⟨i, k1, k2⟩ := ih hn
    have hle := runL_le (fun d => !decide (d = 10)) (c :: r)
    exact ⟨i, by rw [k1, List.length_drop, show p + runL (fun d => !decide (d = 10)) (c :: r) + ((c :: r).length - runL (fun d => !decide (d = 10)) (c :: r)) = p + (c :: r).length by omega], k2⟩
  · intro c r p h h1 h2 hn
    rw [lexL_bad h h1 h2] at hn
    cases hn
  · intro c r p h h1 h2 ih hn
    rw [lexL_tok h h1 h2] at hn ⊢
    obtain ⟨i, k1, k2⟩ := ih hn
    have hz := first_size (c :: r) (by simp) h2
    refine ⟨_ :: i, by rw [k1, List.cons_append, List.length_drop, show p + (firstL (c :: r)).2.1 + ((c :: r).length - (firstL (c :: r)).2.1) = p + (c :: r).length by omega], fun t ht => ?_⟩
    rcases List.mem_cons.1 ht with rfl | ht
    · exact (first_good p h h1 h2).1
    · exact k2 t ht

/-- Tokens with a blank ahead of each. -/
def joinT : List Tok → List UInt8
  | [] => []
  | t :: ts => 32 :: (tokB t ++ joinT ts)
theorem join_apart (ts : List Tok) : Apart (joinT ts) := by
  cases ts with
  | nil => exact .inl rfl
  | cons t ts => exact .inr ⟨_, rfl⟩
theorem join_append (a b : List Tok) : joinT (a ++ b) = joinT a ++ joinT b := by
  induction a with
  | nil => rfl
  | cons t a ih => simp [joinT, ih]
theorem lexL_join (ts : List Tok) (h : ∀ t ∈ ts, GoodTok t) (p : Nat) : (lexL (joinT ts) p).2 = none ∧ (lexL (joinT ts) p).1.map (fun t => (t.k, t.x)) = ts.map (fun t => (t.k, t.x)) ++ [(0, [])] := by
  induction ts generalizing p with
  | nil => exact ⟨rfl, rfl⟩
  | cons t ts ih =>
    have hg := h t (by simp)
    have hb : blk 32 = true := by decide
    show (lexL (32 :: (tokB t ++ joinT ts)) p).2 = none ∧ (lexL (32 :: (tokB t ++ joinT ts)) p).1.map _ = _
    rw [lexL_blank hb]
    obtain ⟨c, r, e⟩ := List.exists_cons_of_ne_nil hg.ne
    have h1 := hg.first _ (join_apart ts)
    have h2 := hg.nrem _ (join_apart ts)
    have h3 := hg.nblk c r e
    have hd : (tokB t ++ joinT ts).drop (tokB t).length = joinT ts := List.drop_left
    have htk : (tokB t ++ joinT ts).take (tokB t).length = tokB t := List.take_left
    have hs := hg.said
    obtain ⟨i1, i2⟩ := ih (fun t ht => h t (by simp [ht])) (p + 1 + (tokB t).length)
    obtain ⟨l, hl⟩ : ∃ l, l = tokB t ++ joinT ts := ⟨_, rfl⟩
    rw [← hl] at h1 h2 hd htk ⊢
    have hl2 : l = c :: (r ++ joinT ts) := by rw [hl, e]; rfl
    have he : (firstL l).2.2 = 0 := by rw [h1]
    rw [hl2] at he h2
    have h5 := lexL_tok (p := p + 1) h3 h2 he
    rw [← hl2, h1] at h5
    rw [h5]
    simp only [hd, htk, hs]
    exact ⟨i1, by rw [List.map_cons, i2, List.map_cons, List.cons_append]⟩

/-- What stands between tokens: blanks, up to a slash. -/
def Gap (g : List UInt8) : Prop := ∀ c ∈ g.take (runL (fun d => !decide (d = 47)) g), blk c = true

theorem gap_nil : Gap [] := fun c h => by cases h
theorem gap_more {g : List UInt8} (h : Gap g) (x : List UInt8) (hx : (∀ c ∈ x, blk c = true) ∨ ∃ r, x = 47 :: r) : Gap (g ++ x) := by
  intro c hc
  by_cases hall : ∀ d ∈ g, (fun d : UInt8 => !decide (d = 47)) d = true
  · rw [runL_append _ g x hall, List.take_append, List.take_of_length_le (by omega), List.mem_append] at hc
    rcases hc with hc | hc
    · exact h c (by rw [runL_whole _ g hall, List.take_length]; exact hc)
    · rcases hx with hx | ⟨r, rfl⟩
      · exact hx c (List.mem_of_mem_take hc)
      · rw [runL_cons_false _ _ _ (by decide)] at hc
        simp at hc
  · have hlt : runL (fun d : UInt8 => !decide (d = 47)) g < g.length := by
      rcases Nat.lt_or_ge (runL (fun d : UInt8 => !decide (d = 47)) g) g.length with h1 | h1
      · exact h1
      · exfalso
        apply hall
        have := runL_all (fun d : UInt8 => !decide (d = 47)) g
        rw [List.take_of_length_le h1] at this
        exact this
    have e : runL (fun d : UInt8 => !decide (d = 47)) (g ++ x) = runL (fun d : UInt8 => !decide (d = 47)) g := by
      have h2 : ∀ (g : List UInt8), runL (fun d : UInt8 => !decide (d = 47)) g < g.length → runL (fun d : UInt8 => !decide (d = 47)) (g ++ x) = runL (fun d : UInt8 => !decide (d = 47)) g := by
        intro g
        induction g with
        | nil => intro h; simp at h
        | cons d g ih =>
          intro h
          rw [List.cons_append]
          show (if (fun d : UInt8 => !decide (d = 47)) d then _ else 0) = (if (fun d : UInt8 => !decide (d = 47)) d then _ else 0)
          by_cases hd : (fun d : UInt8 => !decide (d = 47)) d = true
          · rw [if_pos hd, if_pos hd, ih]
            have e : runL (fun d : UInt8 => !decide (d = 47)) (d :: g) = runL (fun d : UInt8 => !decide (d = 47)) g + 1 := by
              show (if (fun d : UInt8 => !decide (d = 47)) d then _ else 0) = _
              rw [if_pos hd]
            rw [e, List.length_cons] at h
            omega
          · rw [if_neg hd, if_neg hd]
      exact h2 g hlt
    rw [e, List.take_append_of_le_length (by omega)] at hc
    exact h c hc

/-- Where tokens stand. -/
def Pl (s : List UInt8) : Nat → List Tok → Prop
  | _, [] => False
  | e, t :: ts => e ≤ t.p ∧ t.p ≤ s.length ∧ Gap ((s.drop e).take (t.p - e)) ∧
      ((ts = [] ∧ t = ⟨0, [], s.length⟩) ∨ (ts ≠ [] ∧ GoodTok t ∧ t.p + (tokB t).length ≤ s.length ∧ (s.drop t.p).take (tokB t).length = tokB t ∧ Pl s (t.p + (tokB t).length) ts))

theorem lexL_ne (l : List UInt8) (p : Nat) (h : (lexL l p).2 = none) : (lexL l p).1 ≠ [] := by
  obtain ⟨i, e, _⟩ := lexL_good l p h
  rw [e]
  simp

theorem lexL_places (s l : List UInt8) (p : Nat) : ∀ e, l = s.drop p → p ≤ s.length → e ≤ p → Gap ((s.drop e).take (p - e)) → (lexL l p).2 = none → Pl s e (lexL l p).1 := by
  have hgap : ∀ e p n, e ≤ p → (s.drop e).take (p + n - e) = (s.drop e).take (p - e) ++ (s.drop p).take n := fun e p n h => by
    rw [show p + n - e = (p - e) + n by omega, List.take_add, List.drop_drop, show e + (p - e) = p by omega]
  refine lexL_ind (P := fun l p => ∀ e, l = s.drop p → p ≤ s.length → e ≤ p → Gap ((s.drop e).take (p - e)) → (lexL l p).2 = none → Pl s e (lexL l p).1) ?_ ?_ ?_ ?_ ?_ ?_ l p
  · intro p e hl hp he hg hn
    have : s.length ≤ p := by have := congrArg List.length hl; rw [List.length_drop] at this; simp at this; omega
    obtain rfl : p = s.length := by omega
    rw [lexL_nil]
    exact ⟨he, hp, hg, .inl ⟨rfl, rfl⟩⟩
  · intro c r p h ih e hl hp he hg hn
    have hlen : p + 1 ≤ s.length := by have := congrArg List.length hl; rw [List.length_drop, List.length_cons] at this; omega
    rw [lexL_blank h] at hn ⊢
    refine ih e ?_ hlen (by omega) ?_ hn
    · rw [← List.drop_drop, ← hl]; rfl
    · rw [hgap e p 1 he, ← hl]
      exact gap_more hg _ (.inl fun d hd => by simp at hd; rw [hd]; exact h)
  · intro c r p h h1 h2 e hl hp he hg hn
    have hlen : p + (c :: r).length = s.length := by have := congrArg List.length hl; rw [List.length_drop] at this; omega
    rw [lexL_rem_end h h1 h2, hlen]
    refine ⟨by show e ≤ s.length; omega, Nat.le_refl _, ?_, .inl ⟨rfl, rfl⟩⟩
    show Gap ((s.drop e).take (s.length - e))
    rw [← hlen, hgap e p _ he, ← hl]
    exact gap_more hg _ (.inr ⟨r, by rw [List.take_length, rem_head h1]⟩)
  · intro c r p h h1 h2 ih e hl hp he hg hn
    have hlen : p + (c :: r).length = s.length := by have := congrArg List.length hl; rw [List.length_drop] at this; omega
    have hle := runL_le (fun d => !decide (d = 10)) (c :: r)
    have hz := rem_size _ h1
    rw [lexL_rem h h1 h2] at hn ⊢
    obtain ⟨z, hzz⟩ : ∃ z, z = runL (fun d => !decide (d = 10)) (c :: r) := ⟨_, rfl⟩
    rw [← hzz] at ih hle hz hn ⊢
    refine ih e ?_ (by omega) (by omega) ?_ hn
    · rw [← List.drop_drop, ← hl]
    · rw [hgap e p z he, ← hl]
      obtain ⟨m, hm⟩ : ∃ m, z = m + 1 := ⟨z - 1, by omega⟩
      exact gap_more hg _ (.inr ⟨r.take m, by rw [hm, List.take_succ_cons, rem_head h1]⟩)
  · intro c r p h h1 h2 e hl hp he hg hn
    rw [lexL_bad h h1 h2] at hn
    cases hn
  · intro c r p h h1 h2 ih e hl hp he hg hn
    have hlen : p + (c :: r).length = s.length := by have := congrArg List.length hl; rw [List.length_drop] at this; omega
    obtain ⟨g, gb⟩ := first_good p h h1 h2
    have hz := first_size (c :: r) (by simp) h2
    rw [lexL_tok h h1 h2] at hn ⊢
    have hbl : (tokB ⟨(firstL (c :: r)).1, saidL (firstL (c :: r)).1 ((c :: r).take (firstL (c :: r)).2.1), p⟩).length = (firstL (c :: r)).2.1 := by rw [gb, List.length_take]; omega
    refine ⟨he, hp, hg, .inr ⟨lexL_ne _ _ hn, g, ?_, ?_, ?_⟩⟩
    · rw [hbl]; show p + _ ≤ _; omega
    · rw [hbl, gb]
      show (s.drop p).take _ = _
      rw [← hl]
    · rw [hbl]
      refine ih (p + (firstL (c :: r)).2.1) ?_ (by omega) (Nat.le_refl _) (by rw [Nat.sub_self]; exact gap_nil) hn
      rw [← List.drop_drop, ← hl]

end Go.Proofs.YtgelggdgbmldiaaGreatDoor

namespace Go.Proofs.YtgelggdgbmldiaaGreatDoor
set_option linter.unusedVariables false
set_option linter.unusedSimpArgs false

theorem ltr_facts {c : UInt8} (h : ltr c = true) : dig c = false ∧ blk c = false ∧ c ≠ 47 ∧ nmc c = true := by
  refine ⟨?_, ?_, fun e => ?_, by unfold nmc; rw [h]; rfl⟩
  · unfold ltr at h
    unfold dig
    simp at h ⊢
    omega
  · unfold ltr at h
    unfold blk
    simp at h ⊢
    omega
  · rw [e] at h
    revert h
    decide
theorem dig_facts {c : UInt8} (h : dig c = true) : ltr c = false ∧ blk c = false ∧ c ≠ 47 := by
  refine ⟨?_, ?_, fun e => ?_⟩
  · unfold dig at h
    unfold ltr
    simp at h ⊢
    omega
  · unfold dig at h
    unfold blk
    simp at h ⊢
    omega
  · rw [e] at h
    revert h
    decide
theorem not_rem {c : UInt8} {r : List UInt8} (h : c ≠ 47) : isRem (c :: r) = false := by
  cases hh : isRem (c :: r) with
  | false => rfl
  | true => exact absurd (rem_head hh) h

theorem lex_name {c : UInt8} {r : List UInt8} (h : ltr c = true) (hall : ∀ d ∈ c :: r, nmc d = true) (p : Nat) :
    lexL (c :: r) p = if isWord (c :: r) then ([⟨4, c :: r, p⟩, ⟨0, [], p + (c :: r).length⟩], none) else if 8 < (c :: r).length then ([], some (p, 13)) else ([⟨3, c :: r, p⟩, ⟨0, [], p + (c :: r).length⟩], none) := by
  obtain ⟨h1, h2, h3, h4⟩ := ltr_facts h
  have hrun := runL_whole nmc (c :: r) hall
  have hf : firstL (c :: r) = nameL (c :: r) := by unfold firstL; rw [List.headD_cons, if_neg (by rw [h1]; decide), if_pos h]
  have hn : nameL (c :: r) = if isWord (c :: r) then (4, (c :: r).length, 0) else if 8 < (c :: r).length then (0, 0, 13) else (3, (c :: r).length, 0) := by unfold nameL; rw [hrun, List.take_length]
  by_cases hw : isWord (c :: r) = true
  · rw [if_pos hw] at hn ⊢
    rw [lexL_tok h2 (not_rem h3) (by rw [hf, hn]), hf, hn]
    simp only [List.take_length, List.drop_length]
    rfl
  · rw [if_neg hw] at hn ⊢
    by_cases hl : 8 < (c :: r).length
    · rw [if_pos hl] at hn ⊢
      rw [lexL_bad h2 (not_rem h3) (by rw [hf, hn]; decide), hf, hn]
    · rw [if_neg hl] at hn ⊢
      rw [lexL_tok h2 (not_rem h3) (by rw [hf, hn]), hf, hn]
      simp only [List.take_length, List.drop_length]
      rfl

theorem lex_semi (p : Nat) : lexL [59] p = ([⟨5, [59], p⟩, ⟨0, [], p + 1⟩], none) := by
  rw [lexL_tok (by decide) (by decide) (by decide)]
  rfl

theorem lex_number {c : UInt8} {r : List UInt8} (h : dig c = true) (hall : ∀ d ∈ c :: r, dig d = true) (hv : numV (c :: r) ≤ 9223372036854775807) :
    lexL (c :: r ++ [59]) 0 = if (c :: r).length ≤ 19 then ([⟨1, c :: r, 0⟩, ⟨5, [59], (c :: r).length⟩, ⟨0, [], (c :: r).length + 1⟩], none) else ([], some (0, 12)) := by
  obtain ⟨h1, h2, h3⟩ := dig_facts h
  have hrun : runL dig (c :: r ++ [59]) = (c :: r).length := by rw [runL_append dig _ _ hall, runL_cons_false _ _ _ (by decide)]; rfl
  have hf : firstL (c :: (r ++ [59])) = numberL (c :: r ++ [59]) := by unfold firstL; rw [List.headD_cons, if_pos h]; rfl
  have hn : numberL (c :: r ++ [59]) = if (c :: r).length ≤ 19 then (1, (c :: r).length, 0) else (0, 0, 12) := by
    unfold numberL
    rw [hrun, List.take_left]
    by_cases hl : (c :: r).length ≤ 19
    · rw [if_pos ⟨hv, hl⟩, if_pos hl]
    · rw [if_neg (fun h => hl h.2), if_neg hl]
  show lexL (c :: (r ++ [59])) 0 = _
  by_cases hl : (c :: r).length ≤ 19
  · rw [if_pos hl] at hn ⊢
    rw [lexL_tok h2 (not_rem h3) (by rw [hf, hn]), hf, hn]
    have e1 : (c :: (r ++ [59])).drop (c :: r).length = [59] := by
      show (c :: r ++ [59]).drop (c :: r).length = [59]
      exact List.drop_left
    have e2 : (c :: (r ++ [59])).take (c :: r).length = c :: r := by
      show (c :: r ++ [59]).take (c :: r).length = c :: r
      exact List.take_left
    simp only [e1, e2, Nat.zero_add, lex_semi]
    rfl
  · rw [if_neg hl] at hn ⊢
    rw [lexL_bad h2 (not_rem h3) (by rw [hf, hn]; decide), hf, hn]

theorem lex_big : lexL [57, 50, 50, 51, 51, 55, 50, 48, 51, 54, 56, 53, 52, 55, 55, 53, 56, 48, 56] 0 = ([], some (0, 12)) := by
  rw [lexL_bad (by decide) (by decide) (by decide +kernel), show (firstL [57, 50, 50, 51, 51, 55, 50, 48, 51, 54, 56, 53, 52, 55, 55, 53, 56, 48, 56]).2.2 = 12 from by decide +kernel]
theorem lex_most : (lexL [57, 50, 50, 51, 51, 55, 50, 48, 51, 54, 56, 53, 52, 55, 55, 53, 56, 48, 55] 0).2 = none ∧ (lexL [57, 50, 50, 51, 51, 55, 50, 48, 51, 54, 56, 53, 52, 55, 55, 53, 56, 48, 55] 0).1.length = 2 := by decide +kernel

theorem lex_text {x : List UInt8} (hq : (34 : UInt8) ∉ x) (p : Nat) :
    lexL (34 :: (x ++ [34])) p = if (∀ c ∈ x, txc c = true) then (if 12 < x.length then ([], some (p, 4)) else ([⟨2, x, p⟩, ⟨0, [], p + x.length + 2⟩], none)) else ([], some (p, 11)) := by
  have hf : firstL (34 :: (x ++ [34])) = textL (x ++ [34]) := by unfold firstL; rw [List.headD_cons, if_neg (by decide), if_neg (by decide), if_pos rfl]; rfl
  by_cases hall : ∀ c ∈ x, txc c = true
  · rw [if_pos hall]
    have hrun : runL txc (x ++ [34]) = x.length := by rw [runL_append txc _ _ hall, runL_cons_false _ _ _ (by decide)]; rfl
    have hg : (x ++ [34])[x.length]? = some 34 := by rw [List.getElem?_append_right (Nat.le_refl _), Nat.sub_self]; rfl
    by_cases hl : 12 < x.length
    · rw [if_pos hl]
      have hn : textL (x ++ [34]) = (0, 0, 4) := by unfold textL; rw [hrun, if_pos hg, if_pos hl]
      rw [lexL_bad (by decide) (not_rem (by decide)) (by rw [hf, hn]; decide), hf, hn]
    · rw [if_neg hl]
      have hn : textL (x ++ [34]) = (2, x.length + 2, 0) := by unfold textL; rw [hrun, if_pos hg, if_neg hl]
      rw [lexL_tok (by decide) (not_rem (by decide)) (by rw [hf, hn]), hf, hn]
      have hlen : (34 :: (x ++ [34])).length = x.length + 2 := by simp
      have e1 : (34 :: (x ++ [34])).drop (x.length + 2) = [] := List.drop_of_length_le (by omega)
      have e2 : (34 :: (x ++ [34])).take (x.length + 2) = 34 :: (x ++ [34]) := List.take_of_length_le (by omega)
      simp only [e1, e2]
      rw [lexL_nil]
      have e3 : saidL 2 (34 :: (x ++ [34])) = x := by
        unfold saidL
        rw [if_pos rfl, hlen]
        simp [List.take_succ_cons]
      rw [e3]
      rfl
  · rw [if_neg hall]
    have hn : textL (x ++ [34]) = (0, 0, 11) := by
      unfold textL
      rw [if_neg]
      intro h
      have hlt : runL txc (x ++ [34]) < x.length := by
        have hle := runL_le txc (x ++ [34])
        have hal := runL_all txc (x ++ [34])
        rcases Nat.lt_or_ge (runL txc (x ++ [34])) x.length with h1 | h1
        · exact h1
        · exfalso
          apply hall
          intro c hc
          apply hal
          rw [List.take_append]
          rw [List.take_of_length_le h1]
          exact List.mem_append_left _ hc
      rw [List.getElem?_append_left hlt] at h
      exact hq (List.mem_of_getElem? h)
    rw [lexL_bad (by decide) (not_rem (by decide)) (by rw [hf, hn]; decide), hf, hn]

theorem lex_open {x : List UInt8} (hq : (34 : UInt8) ∉ x) : (lexL (97 :: 32 :: 34 :: x) 0).2 = some (2, 11) := by
  have hf0 : firstL (97 :: 32 :: 34 :: x) = (3, 1, 0) := by
    have hr : runL nmc (97 :: 32 :: 34 :: x) = 1 := by
      show (if nmc 97 then runL nmc (32 :: 34 :: x) + 1 else 0) = 1
      rw [if_pos (by decide), runL_cons_false _ _ _ (by decide)]
    unfold firstL
    rw [List.headD_cons, if_neg (by decide), if_pos (by decide)]
    unfold nameL
    rw [hr]
    rfl
  rw [lexL_tok (by decide) (not_rem (by decide)) (by rw [hf0])]
  rw [hf0]
  show (lexL (32 :: 34 :: x) (0 + 1)).2 = _
  rw [lexL_blank (by decide)]
  have hf : firstL (34 :: x) = textL x := by unfold firstL; rw [List.headD_cons, if_neg (by decide), if_neg (by decide), if_pos rfl]; rfl
  have hn : textL x = (0, 0, 11) := by
    unfold textL
    rw [if_neg]
    intro h
    exact hq (List.mem_of_getElem? h)
  rw [lexL_bad (by decide) (not_rem (by decide)) (by rw [hf, hn]; decide), hf, hn]

def blanksL : List (List UInt8) := [[32], [9], [10], [47, 47, 32, 120, 32, 34, 10]]
theorem lex_gap1 {b : List UInt8} (hb : b ∈ blanksL) (l : List UInt8) (p : Nat) : lexL (b ++ l) p = lexL l (p + b.length) := by
  simp only [blanksL, List.mem_cons, List.not_mem_nil, or_false] at hb
  rcases hb with rfl | rfl | rfl | rfl
  · exact lexL_blank (by decide)
  · exact lexL_blank (by decide)
  · exact lexL_blank (by decide)
  · have hrun : runL (fun d => !decide (d = 10)) (47 :: 47 :: 32 :: 120 :: 32 :: 34 :: 10 :: l) = 6 := by
      have := runL_append (fun d : UInt8 => !decide (d = 10)) [47, 47, 32, 120, 32, 34] (10 :: l) (by decide)
      rw [runL_cons_false _ _ _ (by decide)] at this
      exact this
    show lexL (47 :: 47 :: 32 :: 120 :: 32 :: 34 :: 10 :: l) p = _
    have hrem : isRem (47 :: 47 :: 32 :: 120 :: 32 :: 34 :: 10 :: l) = true := List.isPrefixOf_iff_prefix.2 ⟨32 :: 120 :: 32 :: 34 :: 10 :: l, rfl⟩
    rw [lexL_rem (by decide) hrem (by rw [hrun]; simp), hrun]
    show lexL (10 :: l) (p + 6) = _
    rw [lexL_blank (by decide)]
    rfl
theorem lex_gap {b : List UInt8} (hb : b ∈ blanksL) (m : Nat) (l : List UInt8) (p : Nat) : lexL ((List.replicate m b).flatten ++ l) p = lexL l (p + m * b.length) := by
  induction m generalizing p with
  | zero => simp
  | succ m ih =>
    rw [List.replicate_succ, List.flatten_cons, List.append_assoc, lex_gap1 hb, ih, Nat.succ_mul, show p + b.length + m * b.length = p + (m * b.length + b.length) by omega]

end Go.Proofs.YtgelggdgbmldiaaGreatDoor
