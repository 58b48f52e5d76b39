/-
 Layer 1: what a source is as tokens, as data. Written by an AI agent.
 Layer 1: lines of a source, as data. Written by an AI agent.
 Layer 2: what the program's parser does, as data, step by step. Written by an AI agent.
 Layer 2: what the program's parser does with statements and functions, as data. Written by an AI agent.
 Layer 2: the nodes that the program's parser makes stand as they should. Written by an AI agent.
 Layer 2: the data of the program's parser comes to an end. Written by an AI agent.
-/
import Derived.Lib.Bytealg
namespace Go.Proofs.YtbhpnioggpgbhaaGreatDoor
set_option linter.unusedVariables false
set_option linter.unusedSimpArgs false
def dig (c : UInt8) : Bool := decide (48 ≤ c.toNat) && decide (c.toNat ≤ 57)
def ltr (c : UInt8) : Bool := (decide (97 ≤ c.toNat) && decide (c.toNat ≤ 122)) || (decide (65 ≤ c.toNat) && decide (c.toNat ≤ 90))
def blk (c : UInt8) : Bool := (decide (c.toNat = 32) || decide (c.toNat = 9)) || (decide (c.toNat = 13) || decide (c.toNat = 10))
def nmc (c : UInt8) : Bool := (ltr c || dig c) || decide (c.toNat = 95)
def txc (c : UInt8) : Bool := (decide (32 ≤ c.toNat) && decide (c.toNat ≤ 126)) && !decide (c.toNat = 34)
/-- How many bytes at the beginning are of a kind. -/
def runL (p : UInt8 → Bool) : List UInt8 → Nat
 | [] => 0
 | c :: r => if p c then runL p r + 1 else 0
theorem runL_le (p : UInt8 → Bool) (l : List UInt8) : runL p l ≤ l.length := by
 induction l with
 | nil => exact Nat.le_refl _
 | cons c r ih => unfold runL; split <;> simp <;> omega
theorem runL_all (p : UInt8 → Bool) (l : List UInt8) : ∀ c ∈ l.take (runL p l), p c = true := by
 induction l with
 | nil => intro c h; simp at h
 | cons d r ih =>
  intro c h
  unfold runL at h
  split at h
  ·rename_i hd
   rw [List.take_succ_cons, List.mem_cons] at h
   rcases h with rfl | h
   ·exact hd
   ·exact ih c h
  ·simp at h
theorem runL_append (p : UInt8 → Bool) (a b : List UInt8) (ha : ∀ c ∈ a, p c = true) : runL p (a ++ b) = a.length + runL p b := by
 induction a with
 | nil => simp
 | cons d r ih =>
  rw [List.cons_append]
  show (if p d then runL p (r ++ b) + 1 else 0) = _
  rw [if_pos (ha d (by simp)), ih fun c hc => ha c (by simp [hc]), List.length_cons]
  omega
theorem runL_cons_false (p : UInt8 → Bool) (c : UInt8) (r : List UInt8) (h : p c = false) : runL p (c :: r) = 0 := by
 show (if p c then _ else 0) = 0
 rw [h]
 rfl
theorem runL_whole (p : UInt8 → Bool) (a : List UInt8) (ha : ∀ c ∈ a, p c = true) : runL p a = a.length := by
 have := runL_append p a [] ha
 simpa [runL] using this
/-- Cut behind what is of the kind, it is as long. -/
theorem runL_take (p : UInt8 → Bool) (l : List UInt8) (n : Nat) (h : runL p l ≤ n) : runL p (l.take n) = runL p l := by
 induction l generalizing n with
 | nil => simp [runL]
 | cons d r ih =>
  cases n with
  | zero =>
   have h0 : runL p (d :: r) = 0 := Nat.le_zero.1 h
   rw [h0]
   rfl
  | succ n =>
   rw [List.take_succ_cons]
   show (if p d then runL p (r.take n) + 1 else 0) = (if p d then runL p r + 1 else 0)
   by_cases hd : p d = true
   ·rw [if_pos hd, if_pos hd, ih n (by
     have : runL p (d :: r) = runL p r + 1 := by show (if p d then _ else 0) = _; rw [if_pos hd]
     omega)]
   ·rw [if_neg hd, if_neg hd]
/-- The number of digits. -/
def numV (l : List UInt8) : Nat := l.foldl (fun a c => a * 10 + (c.toNat - 48)) 0
def wordsL : List (List UInt8) := [[102, 110], [108, 101, 116], [105, 102], [101, 108, 115, 101], [119, 104, 105, 108, 101], [114, 101, 116, 117, 114, 110], [112, 114, 105, 110, 116], [105, 110, 112, 117, 116],
 [110, 101, 119], [108, 101, 110], [116, 114, 117, 101], [102, 97, 108, 115, 101], [105, 110, 116], [98, 111, 111, 108], [116, 101, 120, 116], [108, 105, 115, 116]]
def isWord (l : List UInt8) : Bool := wordsL.contains l
def twosL : List (List UInt8) := [[124, 124], [38, 38], [60, 61], [61, 61], [33, 61]]
def onesL : List UInt8 := [40, 41, 123, 125, 91, 93, 44, 59, 61, 60, 43, 45, 42, 47, 37, 33]
def isTwo (l : List UInt8) : Bool := twosL.any (fun t => t.isPrefixOf l)
/-- The kind, the size and the error of the first token. -/
def numberL (l : List UInt8) : Nat × Nat × Nat := if numV (l.take (runL dig l)) ≤ 9223372036854775807 ∧ runL dig l ≤ 19 then (1, runL dig l, 0) else (0, 0, 12)
def nameL (l : List UInt8) : Nat × Nat × Nat := if isWord (l.take (runL nmc l)) then (4, runL nmc l, 0) else if 8 < runL nmc l then (0, 0, 13) else (3, runL nmc l, 0)
def textL (r : List UInt8) : Nat × Nat × Nat := if r[runL txc r]? = some 34 then (if 12 < runL txc r then (0, 0, 4) else (2, runL txc r + 2, 0)) else (0, 0, 11)
def signL (l : List UInt8) : Nat × Nat × Nat := if isTwo l then (5, 2, 0) else if onesL.contains (l.headD 0) then (5, 1, 0) else (0, 0, 10)
def firstL (l : List UInt8) : Nat × Nat × Nat :=
 if dig (l.headD 0) then numberL l else if ltr (l.headD 0) then nameL l else if l.headD 0 = 34 then textL l.tail else signL l
theorem firstL_cons (c : UInt8) (r : List UInt8) : firstL (c :: r) = if dig c then numberL (c :: r) else if ltr c then nameL (c :: r) else if c = 34 then textL r else signL (c :: r) := rfl
theorem signL_cons (c : UInt8) (r : List UInt8) : signL (c :: r) = if isTwo (c :: r) then (5, 2, 0) else if onesL.contains c then (5, 1, 0) else (0, 0, 10) := rfl
/-- What a token says. -/
def saidL (k : Nat) (l : List UInt8) : List UInt8 := if k = 2 then (l.take (l.length - 1)).drop 1 else l
structure Tok where
 k : Nat
 x : List UInt8
 p : Nat
instance : Inhabited Tok := ⟨⟨0, [], 0⟩⟩
def isRem (l : List UInt8) : Bool := ([47, 47] : List UInt8).isPrefixOf l
/-- The tokens of what is left, from a place on; and where it fails, and how. -/
def lexF : Nat → List UInt8 → Nat → List Tok × Option (Nat × Nat)
  | 0, l, p => ([⟨0, [], p⟩], none)
  | n + 1, [], p => ([⟨0, [], p⟩], none)
  | n + 1, c :: r, p =>
    if blk c then lexF n r (p + 1)
    else if isRem (c :: r) then
      (if runL (fun d => !decide (d = 10)) (c :: r) = (c :: r).length then ([⟨0, [], p + (c :: r).length⟩], none)
       else lexF n ((c :: r).drop (runL (fun d => !decide (d = 10)) (c :: r))) (p + runL (fun d => !decide (d = 10)) (c :: r)))
    else if (firstL (c :: r)).2.2 = 0 then
      (⟨(firstL (c :: r)).1, saidL (firstL (c :: r)).1 ((c :: r).take (firstL (c :: r)).2.1), p⟩ :: (lexF n ((c :: r).drop (firstL (c :: r)).2.1) (p + (firstL (c :: r)).2.1)).1,
       (lexF n ((c :: r).drop (firstL (c :: r)).2.1) (p + (firstL (c :: r)).2.1)).2)
    else ([], some (p, (firstL (c :: r)).2.2))
def lexL (l : List UInt8) (p : Nat) : List Tok × Option (Nat × Nat) := lexF l.length l p
theorem first_size (l : List UInt8) (hl : l ≠ []) (h : (firstL l).2.2 = 0) : 1 ≤ (firstL l).2.1 ∧ (firstL l).2.1 ≤ l.length := by
 obtain ⟨c, r, rfl⟩ := List.exists_cons_of_ne_nil hl
 rw [firstL_cons] at h ⊢
 by_cases h1 : dig c = true
 ·rw [if_pos h1] at h ⊢
  have hr : runL dig (c :: r) = runL dig r + 1 := by show (if dig c then _ else 0) = _; rw [if_pos h1]
  have := runL_le dig (c :: r)
  unfold numberL at h ⊢
  split at h
  ·rename_i hc
   rw [if_pos hc]
   show 1 ≤ runL dig (c :: r) ∧ runL dig (c :: r) ≤ _
   omega
  ·cases h
 ·rw [if_neg h1] at h ⊢
  by_cases h2 : ltr c = true
  ·rw [if_pos h2] at h ⊢
   have hn : nmc c = true := by unfold nmc; rw [h2]; rfl
   have hr : runL nmc (c :: r) = runL nmc r + 1 := by show (if nmc c then _ else 0) = _; rw [if_pos hn]
   have := runL_le nmc (c :: r)
   unfold nameL at h ⊢
   split at h
   ·rename_i hc
    rw [if_pos hc]
    show 1 ≤ runL nmc (c :: r) ∧ runL nmc (c :: r) ≤ _
    omega
   ·rename_i hc
    rw [if_neg hc]
    split at h
    ·cases h
    ·rename_i hc
     rw [if_neg hc]
     show 1 ≤ runL nmc (c :: r) ∧ runL nmc (c :: r) ≤ _
     omega
  ·rw [if_neg h2] at h ⊢
   by_cases h3 : c = 34
   ·rw [if_pos h3] at h ⊢
    unfold textL at h ⊢
    split at h
    ·rename_i hc
     rw [if_pos hc]
     split at h
     ·cases h
     ·rename_i hd
      rw [if_neg hd]
      have : runL txc r < r.length := (List.getElem?_eq_some_iff.1 hc).1
      show 1 ≤ runL txc r + 2 ∧ runL txc r + 2 ≤ (c :: r).length
      rw [List.length_cons]
      omega
    ·cases h
   ·rw [if_neg h3] at h ⊢
    rw [signL_cons] at h ⊢
    split at h
    ·rename_i hc
     rw [if_pos hc]
     refine ⟨by decide, ?_⟩
     show 2 ≤ (c :: r).length
     unfold isTwo at hc
     rw [List.any_eq_true] at hc
     obtain ⟨t, ht, hp⟩ := hc
     have h5 : t.length = 2 := by
      simp only [twosL, List.mem_cons, List.not_mem_nil, or_false] at ht
      rcases ht with rfl | rfl | rfl | rfl | rfl <;> rfl
     have h6 := (List.isPrefixOf_iff_prefix.1 hp).length_le
     omega
    ·rename_i hc
     rw [if_neg hc]
     split at h
     ·rename_i hd
      rw [if_pos hd]
      refine ⟨Nat.le_refl _, ?_⟩
      show 1 ≤ (c :: r).length
      rw [List.length_cons]
      omega
     ·cases h
theorem rem_size (l : List UInt8) (h : isRem l = true) : 2 ≤ runL (fun d => !decide (d = 10)) l := by
 unfold isRem at h
 obtain ⟨t, rfl⟩ := List.isPrefixOf_iff_prefix.1 h
 rw [runL_append _ _ _ (by decide)]
 simp
theorem lexF_fuel (n m : Nat) (l : List UInt8) (p : Nat) (hn : l.length ≤ n) (hm : l.length ≤ m) : lexF n l p = lexF m l p := by
 induction n generalizing m l p with
 | zero =>
  have : l = [] := List.length_eq_zero_iff.1 (by omega)
  subst this
  cases m <;> rfl
 | succ n ih =>
  cases l with
  | nil => cases m <;> rfl
  | cons c r =>
   cases m with
   | zero => simp at hm
   | succ m =>
    simp only [List.length_cons] at hn hm
    unfold lexF
    by_cases h1 : blk c = true
    ·rw [if_pos h1, if_pos h1, ih m r (p + 1) (by omega) (by omega)]
    ·rw [if_neg h1, if_neg h1]
     by_cases h2 : isRem (c :: r) = true
     ·rw [if_pos h2, if_pos h2]
      have := rem_size _ h2
      split
      ·rfl
      ·exact ih m _ _ (by rw [List.length_drop, List.length_cons]; omega) (by rw [List.length_drop, List.length_cons]; omega)
     ·rw [if_neg h2, if_neg h2]
      by_cases h3 : (firstL (c :: r)).2.2 = 0
      ·have h4 := first_size (c :: r) (by simp) h3
       rw [if_pos h3, if_pos h3, ih m _ _ (by rw [List.length_drop, List.length_cons]; omega) (by rw [List.length_drop, List.length_cons]; omega)]
      ·rw [if_neg h3, if_neg h3]
theorem lexL_nil (p : Nat) : lexL [] p = ([⟨0, [], p⟩], none) := rfl
theorem lexL_blank {c : UInt8} {r : List UInt8} {p : Nat} (h : blk c = true) : lexL (c :: r) p = lexL r (p + 1) := by
 unfold lexL
 rw [List.length_cons]
 conv => lhs; unfold lexF
 rw [if_pos h]
theorem lexL_rem_end {c : UInt8} {r : List UInt8} {p : Nat} (h0 : blk c = false) (h : isRem (c :: r) = true) (he : runL (fun d => !decide (d = 10)) (c :: r) = (c :: r).length) : lexL (c :: r) p = ([⟨0, [], p + (c :: r).length⟩], none) := by
 unfold lexL
 rw [List.length_cons]
 conv => lhs; unfold lexF
 rw [if_neg (by rw [h0]; decide), if_pos h, if_pos he]
 rfl
theorem lexL_rem {c : UInt8} {r : List UInt8} {p : Nat} (h0 : blk c = false) (h : isRem (c :: r) = true) (he : ¬ runL (fun d => !decide (d = 10)) (c :: r) = (c :: r).length) :
  lexL (c :: r) p = lexL ((c :: r).drop (runL (fun d => !decide (d = 10)) (c :: r))) (p + runL (fun d => !decide (d = 10)) (c :: r)) := by
 have h2 := rem_size _ h
 unfold lexL
 rw [List.length_cons]
 conv => lhs; unfold lexF
 rw [if_neg (by rw [h0]; decide), if_pos h, if_neg he]
 exact lexF_fuel _ _ _ _ (by rw [List.length_drop, List.length_cons]; omega) (Nat.le_refl _)
theorem lexL_bad {c : UInt8} {r : List UInt8} {p : Nat} (h0 : blk c = false) (h : isRem (c :: r) = false) (he : ¬ (firstL (c :: r)).2.2 = 0) : lexL (c :: r) p = ([], some (p, (firstL (c :: r)).2.2)) := by
 unfold lexL
 rw [List.length_cons]
 conv => lhs; unfold lexF
 rw [if_neg (by rw [h0]; decide), if_neg (by rw [h]; decide), if_neg he]
theorem lexL_tok {c : UInt8} {r : List UInt8} {p : Nat} (h0 : blk c = false) (h : isRem (c :: r) = false) (he : (firstL (c :: r)).2.2 = 0) :
    lexL (c :: r) p = (⟨(firstL (c :: r)).1, saidL (firstL (c :: r)).1 ((c :: r).take (firstL (c :: r)).2.1), p⟩ :: (lexL ((c :: r).drop (firstL (c :: r)).2.1) (p + (firstL (c :: r)).2.1)).1,
       (lexL ((c :: r).drop (firstL (c :: r)).2.1) (p + (firstL (c :: r)).2.1)).2) := by
  have h2 := first_size (c :: r) (by simp) he
  unfold lexL
  rw [List.length_cons]
  conv => lhs; unfold lexF
  rw [if_neg (by rw [h0]; decide), if_neg (by rw [h]; decide), if_pos he, lexF_fuel r.length ((c :: r).drop (firstL (c :: r)).2.1).length _ _ (by rw [List.length_drop, List.length_cons]; omega) (Nat.le_refl _)]
end Go.Proofs.YtbhpnioggpgbhaaGreatDoor

namespace Go.Proofs.YtbhpnioggpgbhaaGreatDoor
set_option linter.unusedVariables false
set_option linter.unusedSimpArgs false
def lineL (l : List UInt8) (a : Int) : Nat := if a < 0 then 1 else 1 + (l.take a.toNat).count 10
theorem line_le (l : List UInt8) (a : Int) : lineL l a ≤ 1 + l.length := by
 unfold lineL
 split
 ·omega
 ·have h1 := List.count_le_length (a := (10 : UInt8)) (l := l.take a.toNat)
  have h2 := List.length_take_le a.toNat l
  rw [List.length_take] at h1
  omega
end Go.Proofs.YtbhpnioggpgbhaaGreatDoor

namespace Go.Proofs.YtbhpnioggpgbhaaGreatDoor
set_option linter.unusedVariables false
set_option linter.unusedSimpArgs false
structure Nd where
 k : Int
 ln : Int
 n : Int
 s : List UInt8
 l : List Int
structure PS where
 i : Nat
 pl : Nat
 er : Nat
 nd : List Nd
 dp : Int
abbrev PM := StateT PS Option
theorem bind_out {α β : Type} {m : PM α} {f : α → PM β} {s : PS} {r : β × PS} (h : (m >>= f) s = some r) : ∃ a s1, m s = some (a, s1) ∧ f a s1 = some r := by
 have h1 : (m s).bind (fun p => f p.1 p.2) = some r := h
 cases hm : m s with
 | none => rw [hm] at h1; cases h1
 | some p => rw [hm] at h1; exact ⟨p.1, p.2, rfl, h1⟩
theorem pure_out {α : Type} {a : α} {s : PS} {r : α × PS} (h : (pure a : PM α) s = some r) : r = (a, s) := (Option.some.inj h).symm
theorem bind_in {α β : Type} {m : PM α} {f : α → PM β} {s s1 : PS} {a : α} (h : m s = some (a, s1)) : (m >>= f) s = f a s1 := by
 show (m s).bind (fun p => f p.1 p.2) = _
 rw [h]
 rfl
section
variable (src : List UInt8) (T : List Tok)
def tokA (s : PS) : Tok := T.getD s.i default
def isS (ts : List (List UInt8)) (s : PS) : Bool := (decide ((tokA T s).k = 5) || decide ((tokA T s).k = 4)) && ts.contains (tokA T s).x
def callsS (s : PS) : Bool := decide ((tokA T s).k = 3) && (decide ((T.getD (s.i + 1) default).k = 5) && decide ((T.getD (s.i + 1) default).x = [40]))
def lineS (s : PS) : Int := (lineL src ((tokA T s).p : Int) : Nat)
def nextS (s : PS) : PS := if s.i < T.length - 1 then { s with i := s.i + 1 } else s
def failS (e : Nat) (s : PS) : PS := if s.er = 0 then { s with pl := (tokA T s).p, er := e, i := T.length - 1 } else s
def wantS (x : List UInt8) (s : PS) : PS := if isS T [x] s then nextS T s else failS T 20 s
def nameS (s : PS) : PS := if (tokA T s).k = 3 then nextS T s else failS T 20 s
def nameX (s : PS) : List UInt8 := if (tokA T s).k = 3 then (tokA T s).x else []
def mod (f : PS → PS) : PM Unit := fun s => some ((), f s)
def ask {α : Type} (f : PS → α) : PM α := fun s => some (f s, s)
def nodeM (n : Nd) (l : List Int) : PM Int := fun s => if s.nd.length < 100000 then some ((s.nd.length : Int), { s with nd := s.nd ++ [{ n with l := l }] }) else none
def deepS (d : Int) : PM Unit := fun s => if -1000000 < s.dp ∧ s.dp < 1000000 then some ((), { s with dp := s.dp + d }) else none
def openS (x : List UInt8) (s : PS) : PS := wantS T x (if isS T [x] s && decide (16 ≤ s.dp) then failS T 21 s else s)
def openM (x : List UInt8) : PM Unit := do mod (openS T x); deepS 1
def shutM (x : List UInt8) : PM Unit := do mod (wantS T x); deepS (-1)
/-- What is between two signs. -/
def insideM (ex : PM Int) (a b : List UInt8) : PM Int := do
 openM T a
 let x ← ex
 shutM T b
 pure x
def variableM (ex : PM Int) (ln : Int) : PM Int := do
 let x ← ask (nameX T)
 mod (nameS T)
 let b ← ask (isS T [[91]])
 if b then (do
  let y ← insideM T ex [91] [93]
  nodeM ⟨5, ln, 0, x, []⟩ [y])
 else nodeM ⟨4, ln, 0, x, []⟩ []
/-- The number of digits, as far as it goes. -/
def intV (x : List UInt8) : Int := if numV x ≤ 9223372036854775807 then (numV x : Int) else 9223372036854775807
def atomM (ex : PM Int) : PM Int := do
 let ln ← ask (lineS src T)
 let k ← ask (tokA T)
 if k.k = 1 then (do
  mod (nextS T)
  nodeM ⟨1, ln, intV k.x, [], []⟩ [])
 else if k.k = 2 then (do
  mod (nextS T)
  nodeM ⟨3, ln, 0, k.x, []⟩ [])
 else do
  let b ← ask (isS T [[116, 114, 117, 101], [102, 97, 108, 115, 101]])
  if b then (do
   mod (nextS T)
   nodeM ⟨2, ln, if k.x = [116, 114, 117, 101] then 1 else 0, [], []⟩ [])
  else do
   let b ← ask (isS T [[108, 101, 110]])
   if b then (do
    mod (nextS T)
    let x ← insideM T ex [40] [41]
    nodeM ⟨6, ln, 0, [], []⟩ [x])
   else do
    let b ← ask (isS T [[40]])
    if b then insideM T ex [40] [41]
    else variableM T ex ln
def factorM (fac ex : PM Int) : PM Int := do
 let ln ← ask (lineS src T)
 let k ← ask (tokA T)
 let b ← ask (isS T [[33]])
 if b then (do
  openM T k.x
  let x ← fac
  deepS (-1)
  nodeM ⟨8, ln, 0, [], []⟩ [x])
 else do
  let b ← ask (isS T [[45]])
  if b then (do
   openM T k.x
   let x ← fac
   deepS (-1)
   nodeM ⟨7, ln, 0, [], []⟩ [x])
  else atomM src T ex
def signsL : Nat → List (List UInt8)
 | 0 => [[124, 124]]
 | 1 => [[38, 38]]
 | 2 => [[60], [60, 61], [61, 61], [33, 61]]
 | 3 => [[43], [45]]
 | _ => [[42], [47], [37]]
/-- The signs of a level, one behind the other. -/
def chainR (lv : Nat) (sub : PM Int) (ln : Int) : Nat → Int → PM Int
 | 0, _ => fun _ => none
 | n + 1, left => do
  let b ← ask (isS T (signsL lv))
  if b then (do
   let k ← ask (tokA T)
   mod (nextS T)
   let right ← sub
   let x ← nodeM ⟨9, ln, 0, k.x, []⟩ [left, right]
   if lv = 2 then pure x else chainR lv sub ln n x)
  else pure left
/-- Level 5: a factor; below: what signs join. The first number: how deep at most. -/
def exM : Nat → Nat → PM Int
 | 0, _ => fun _ => none
 | n + 1, lv =>
  if lv = 5 then factorM src T (exM n 5) (exM n 0)
  else do
   let ln ← ask (lineS src T)
   let x ← exM n (lv + 1)
   chainR T lv (exM n (lv + 1)) ln n x
end
end Go.Proofs.YtbhpnioggpgbhaaGreatDoor

namespace Go.Proofs.YtbhpnioggpgbhaaGreatDoor
set_option linter.unusedVariables false
set_option linter.unusedSimpArgs false
structure Fnc where
 s : List UInt8
 ln : Int
 ps : List (List UInt8 × Int)
 ret : Int
 body : Int
def typeN (x : List UInt8) : Int := if x = [105, 110, 116] then 1 else if x = [98, 111, 111, 108] then 2 else if x = [116, 101, 120, 116] then 3 else if x = [108, 105, 115, 116] then 4 else 0
section
variable (src : List UInt8) (T : List Tok)
def commaR (ex : PM Int) : Nat → List Int → PM (List Int)
 | 0, _ => fun _ => none
 | n + 1, l => do
  let b ← ask (isS T [[44]])
  if b then (do
   mod (nextS T)
   let x ← ex
   commaR ex n (l ++ [x]))
  else pure l
def argsM (N : Nat) (ex : PM Int) : PM (List Int) := do
 let b ← ask (isS T [[41]])
 if b then pure [] else do
  let x ← ex
  commaR T ex N [x]
def callM (N : Nat) (ex : PM Int) : PM Int := do
 let ln ← ask (lineS src T)
 let x ← ask (nameX T)
 mod (nameS T)
 mod (wantS T [40])
 let l ← argsM T N ex
 mod (wantS T [41])
 nodeM ⟨21, ln, 0, x, []⟩ l
def rightM (N : Nat) (ex : PM Int) : PM Int := do
 let ln ← ask (lineS src T)
 let b ← ask (isS T [[105, 110, 112, 117, 116]])
 if b then (do
  mod (nextS T)
  nodeM ⟨19, ln, 0, [], []⟩ [])
 else do
  let b ← ask (isS T [[110, 101, 119]])
  if b then (do
   mod (nextS T)
   mod (wantS T [40])
   let x ← ex
   mod (wantS T [41])
   nodeM ⟨20, ln, 0, [], []⟩ [x])
  else do
   let b ← ask (callsS T)
   if b then callM src T N ex else ex
def endedM (n : Nd) (l : List Int) : PM Int := do
 mod (wantS T [59])
 nodeM n l
def changeM (N : Nat) (ex : PM Int) (ln : Int) : PM Int := do
 let x ← ask (nameX T)
 mod (nameS T)
 let b ← ask (isS T [[91]])
 if b then (do
  openM T [91]
  let y ← ex
  shutM T [93]
  mod (wantS T [61])
  let z ← ex
  endedM T ⟨12, ln, 0, x, []⟩ [y, z])
 else do
  mod (wantS T [61])
  let y ← rightM src T N ex
  endedM T ⟨11, ln, 0, x, []⟩ [y]
def choiceM (ex bl : PM Int) (ln : Int) : PM Int := do
 mod (nextS T)
 let x ← ex
 let y ← bl
 let b ← ask (isS T [[101, 108, 115, 101]])
 if b then (do
  mod (nextS T)
  let z ← bl
  nodeM ⟨15, ln, 0, [], []⟩ [x, y, z])
 else nodeM ⟨15, ln, 0, [], []⟩ [x, y]
def statementM (N : Nat) (ex bl : PM Int) : PM Int := do
 let ln ← ask (lineS src T)
 let b ← ask (isS T [[105, 102]])
 if b then choiceM T ex bl ln
 else do
  let b ← ask (isS T [[119, 104, 105, 108, 101]])
  if b then (do
   mod (nextS T)
   let x ← ex
   let y ← bl
   nodeM ⟨16, ln, 0, [], []⟩ [x, y])
  else do
   let b ← ask (callsS T)
   if b then (do
    let x ← callM src T N ex
    endedM T ⟨13, ln, 0, [], []⟩ [x])
   else do
    let b ← ask (isS T [[112, 114, 105, 110, 116]])
    if b then (do
     mod (nextS T)
     let x ← ex
     endedM T ⟨14, ln, 0, [], []⟩ [x])
    else do
     let b ← ask (isS T [[114, 101, 116, 117, 114, 110]])
     if b then (do
      mod (nextS T)
      let b ← ask (isS T [[59]])
      if b then endedM T ⟨17, ln, 0, [], []⟩ [] else do
       let x ← ex
       endedM T ⟨17, ln, 0, [], []⟩ [x])
     else do
      let b ← ask (isS T [[108, 101, 116]])
      if b then (do
       mod (nextS T)
       let x ← ask (nameX T)
       mod (nameS T)
       mod (wantS T [61])
       let y ← rightM src T N ex
       endedM T ⟨10, ln, 0, x, []⟩ [y])
      else changeM src T N ex ln
def stmsR (st : PM Int) : Nat → List Int → PM (List Int)
 | 0, _ => fun _ => none
 | n + 1, l => do
  let b ← ask (fun s => decide (s.er = 0) && !(isS T [[125]] s))
  if b then (do
   let x ← st
   stmsR st n (l ++ [x]))
  else pure l
def blockM (N : Nat) (st : PM Int) : PM Int := do
 let ln ← ask (lineS src T)
 openM T [123]
 let l ← stmsR T st N []
 shutM T [125]
 nodeM ⟨18, ln, 0, [], []⟩ l
/-- A statement, so deep at most. -/
def stM (N : Nat) : Nat → PM Int
 | 0 => fun _ => none
 | n + 1 => statementM src T N (exM src T N 0) (blockM src T N (stM N n))
def kindM : PM Int := do
 let b ← ask (isS T [[105, 110, 116], [98, 111, 111, 108], [116, 101, 120, 116], [108, 105, 115, 116]])
 if b then (do
  let k ← ask (tokA T)
  mod (nextS T)
  pure (typeN k.x))
 else do
  mod (failS T 20)
  pure 0
def paramM : PM (List UInt8 × Int) := do
 let x ← ask (nameX T)
 mod (nameS T)
 let t ← kindM T
 pure (x, t)
def paramsR : Nat → List (List UInt8 × Int) → PM (List (List UInt8 × Int))
 | 0, _ => fun _ => none
 | n + 1, l => do
  let b ← ask (isS T [[44]])
  if b then (do
   mod (nextS T)
   let x ← paramM T
   paramsR n (l ++ [x]))
  else pure l
def paramsM (N : Nat) : PM (List (List UInt8 × Int)) := do
 let b ← ask (isS T [[41]])
 if b then pure [] else do
  let x ← paramM T
  paramsR T N [x]
def retM : PM Int := do
 let b ← ask (isS T [[123]])
 if b then pure 0 else kindM T
def functionM (N : Nat) : PM Fnc := do
 let ln ← ask (lineS src T)
 mod (wantS T [102, 110])
 let x ← ask (nameX T)
 mod (nameS T)
 mod (wantS T [40])
 let ps ← paramsM T N
 mod (wantS T [41])
 let r ← retM T
 let y ← blockM src T N (stM src T N N)
 pure ⟨x, ln, ps, r, y⟩
def fnsR (N : Nat) : Nat → List Fnc → PM (List Fnc)
 | 0, _ => fun _ => none
 | n + 1, l => do
  let b ← ask (fun s => decide (s.er = 0) && !(decide ((tokA T s).k = 0)))
  if b then (do
   let x ← functionM src T N
   fnsR N n (l ++ [x]))
  else pure l
end
/-- What All tells: a place and an error, or a tree. -/
def treeP (fs : List Fnc) (s : PS) : (Nat × Nat) ⊕ (List Nd × List Fnc) :=
 if s.er = 0 then (if (decide (300 < s.nd.length) || decide (6 < fs.length)) || fs.any (fun f => decide (3 < f.ps.length)) then .inl (0, 4) else .inr (s.nd, fs)) else .inl (s.pl, s.er)
def allP (N : Nat) (src : List UInt8) : Option ((Nat × Nat) ⊕ (List Nd × List Fnc)) :=
 if 600 < src.length then some (.inl (0, 4))
 else match (lexL src 0).2 with
  | some pe => some (.inl pe)
  | none => (fnsR src (lexL src 0).1 N N [] ⟨0, 0, 0, [], 0⟩).map fun p => treeP p.1 p.2
end Go.Proofs.YtbhpnioggpgbhaaGreatDoor

namespace Go.Proofs.YtbhpnioggpgbhaaGreatDoor
set_option linter.unusedVariables false
set_option linter.unusedSimpArgs false
def Part {α : Type} (m : PM α) (s : PS) (Q : α → PS → Prop) : Prop := ∀ a s', m s = some (a, s') → Q a s'
/-- How many are below a node of a kind. -/
def manyK (k : Int) (n : Nat) : Bool :=
 (decide (k = 1 ∨ k = 2 ∨ k = 3 ∨ k = 4 ∨ k = 19) && decide (n = 0)) || (decide (k = 5 ∨ k = 6 ∨ k = 7 ∨ k = 8 ∨ k = 10 ∨ k = 11 ∨ k = 13 ∨ k = 14 ∨ k = 20) && decide (n = 1)) ||
 (decide (k = 9 ∨ k = 12 ∨ k = 16) && decide (n = 2)) || (decide (k = 15) && decide (n = 2 ∨ n = 3)) || (decide (k = 17) && decide (n ≤ 1)) || decide (k = 18 ∨ k = 21)
/-- Nodes from a place on, and which of them have none above. -/
inductive Fo : Nat → List Nd → List Int → Prop
 | nil (b : Nat) : Fo b [] []
 | cat {b : Nat} {nd nd' : List Nd} {xs ys : List Int} : Fo b nd xs → Fo (b + nd.length) nd' ys → Fo b (nd ++ nd') (xs ++ ys)
 | node {b : Nat} {nd : List Nd} (n : Nd) : Fo b nd n.l → (∀ m ∈ nd, n.ln ≤ m.ln) → manyK n.k n.l.length = true → Fo b (nd ++ [n]) [((b + nd.length : Nat) : Int)]
section
variable (src : List UInt8) (T : List Tok)
def G (s0 : PS) (xs : List Int) (s : PS) : Prop :=
 s0.i ≤ s.i ∧ s.i < T.length ∧ ∃ nd, s.nd = s0.nd ++ nd ∧ Fo s0.nd.length nd xs ∧ ∀ m ∈ nd, lineS src T s0 ≤ m.ln
variable {src T}
end
end Go.Proofs.YtbhpnioggpgbhaaGreatDoor

/-! Each part of it. -/
namespace Go.Proofs.YtbhpnioggpgbhaaGreatDoor
set_option linter.unusedVariables false
set_option linter.unusedSimpArgs false
section
variable {src : List UInt8} {T : List Tok}
end
end Go.Proofs.YtbhpnioggpgbhaaGreatDoor

namespace Go.Proofs.YtbhpnioggpgbhaaGreatDoor
set_option linter.unusedVariables false
set_option linter.unusedSimpArgs false
def Runs {α : Type} (m : PM α) (s : PS) (Q : α → PS → Prop) : Prop := ∃ a s', m s = some (a, s') ∧ Q a s'
theorem Runs.bind {α β : Type} {m : PM α} {f : α → PM β} {s : PS} {R : α → PS → Prop} {Q : β → PS → Prop} (h : Runs m s R) (h2 : ∀ a s', R a s' → Runs (f a) s' Q) : Runs (m >>= f) s Q := by
 obtain ⟨a, s1, h1, hr⟩ := h
 obtain ⟨b, s2, h3, hq⟩ := h2 a s1 hr
 exact ⟨b, s2, (bind_in h1).trans h3, hq⟩
theorem Runs.pure {α : Type} {a : α} {s : PS} {Q : α → PS → Prop} (h : Q a s) : Runs (pure a) s Q := ⟨a, s, rfl, h⟩
theorem Runs.ask {α β : Type} {g : PS → α} {f : α → PM β} {s : PS} {Q : β → PS → Prop} (h : Runs (f (g s)) s Q) : Runs (ask g >>= f) s Q :=
 Runs.bind (R := fun a s' => a = g s ∧ s' = s) ⟨g s, s, rfl, rfl, rfl⟩ (by rintro a s' ⟨rfl, rfl⟩; exact h)
theorem Runs.mod {β : Type} {g : PS → PS} {f : Unit → PM β} {s : PS} {Q : β → PS → Prop} (h : Runs (f ()) (g s) Q) : Runs (mod g >>= f) s Q :=
 Runs.bind (R := fun a s' => s' = g s) ⟨(), g s, rfl, rfl⟩ (by rintro a s' rfl; exact h)
theorem Runs.mono {α : Type} {m : PM α} {s : PS} {Q R : α → PS → Prop} (h : Runs m s Q) (k : ∀ a s', Q a s' → R a s') : Runs m s R := by
 obtain ⟨a, s1, h1, hq⟩ := h
 exact ⟨a, s1, h1, k _ _ hq⟩
/-- The tokens end with one of no kind. -/
def EndT (T : List Tok) : Prop := 0 < T.length ∧ T.length ≤ 1000 ∧ (T.getD (T.length - 1) default).k = 0
section
variable (T : List Tok)
def mu (s : PS) : Nat := if s.er = 0 then T.length - s.i else 0
def Okk (s : PS) : Prop := s.i < T.length ∧ (s.er ≠ 0 → s.i = T.length - 1)
def Rm (s : PS) : Prop := Okk T s ∧ 0 ≤ s.dp ∧ s.dp + mu T s ≤ 900000 ∧ s.nd.length + 10 * mu T s ≤ 90000
def St (s s' : PS) (d c : Nat) (e : Int) : Prop := Okk T s' ∧ mu T s' ≤ mu T s - d ∧ s'.nd.length + 10 * mu T s' ≤ s.nd.length + 10 * (mu T s - d) + c ∧ s'.dp = s.dp + e
variable {T}
theorem mu_pos {s : PS} (h : Okk T s) (he : s.er = 0) : 1 ≤ mu T s := by
 unfold mu
 rw [if_pos he]
 have := h.1
 omega
theorem some_tok (hT : EndT T) {s : PS} (h : Okk T s) (hk : (tokA T s).k ≠ 0) : s.er = 0 ∧ s.i < T.length - 1 := by
 have h0 : s.i ≠ T.length - 1 := fun hi => hk (by unfold tokA; rw [hi]; exact hT.2.2)
 have h1 := h.1
 refine ⟨?_, by omega⟩
 by_cases he : s.er = 0
 ·exact he
 ·exact absurd (h.2 he) h0
theorem isS_k {ts : List (List UInt8)} {s : PS} (h : isS T ts s = true) : (tokA T s).k ≠ 0 := by
 intro h0
 simp [isS, h0] at h
theorem callsS_k {s : PS} (h : callsS T s = true) : (tokA T s).k ≠ 0 := by
 intro h0
 simp [callsS, h0] at h
theorem next_St (hT : EndT T) {s : PS} (h : Okk T s) (hk : (tokA T s).k ≠ 0) : 2 ≤ mu T s ∧ mu T (nextS T s) + 1 = mu T s ∧ St T s (nextS T s) 1 0 0 := by
 obtain ⟨he, hi⟩ := some_tok hT h hk
 have hm : mu T s = T.length - s.i := if_pos he
 have hn : nextS T s = { s with i := s.i + 1 } := if_pos hi
 rw [hn]
 have hm' : mu T { s with i := s.i + 1 } = T.length - (s.i + 1) := if_pos he
 refine ⟨by omega, by omega, ⟨?_, fun hh => absurd he hh⟩, ?_, ?_, ?_⟩
 ·show s.i + 1 < T.length
  omega
 ·omega
 ·show s.nd.length + _ ≤ _
  omega
 ·show s.dp = _
  omega
theorem fail_St {s : PS} (hT : EndT T) (h : Okk T s) {e : Nat} (hx : e ≠ 0) : St T s (failS T e s) 1 0 0 := by
 by_cases he : s.er = 0
 ·have hm := mu_pos h he
  have hn : failS T e s = { s with pl := (tokA T s).p, er := e, i := T.length - 1 } := if_pos he
  rw [hn]
  have hm' : mu T { s with pl := (tokA T s).p, er := e, i := T.length - 1 } = 0 := if_neg hx
  have h0 := hT.1
  refine ⟨⟨?_, fun _ => rfl⟩, by omega, ?_, ?_⟩
  ·show T.length - 1 < T.length
   omega
  ·show s.nd.length + _ ≤ _
   omega
  ·show s.dp = _
   omega
 ·have hn : failS T e s = s := if_neg he
  rw [hn]
  have hm : mu T s = 0 := if_neg he
  exact ⟨h, by omega, by omega, by omega⟩
theorem St.trans {s s1 s2 : PS} {d d' c c' : Nat} {e e' : Int} (h : St T s s1 d c e) (h2 : St T s1 s2 d' c' e') : St T s s2 d (c + c') (e + e') := by
 obtain ⟨a1, a2, a3, a4⟩ := h
 obtain ⟨b1, b2, b3, b4⟩ := h2
 exact ⟨b1, by omega, by omega, by omega⟩
theorem want_St (hT : EndT T) {s : PS} (h : Okk T s) (x : List UInt8) : St T s (wantS T x s) 1 0 0 := by
 unfold wantS
 by_cases hb : isS T [x] s = true
 ·rw [if_pos hb]
  exact (next_St hT h (isS_k hb)).2.2
 ·rw [if_neg hb]
  exact fail_St hT h (by decide)
theorem name_St (hT : EndT T) {s : PS} (h : Okk T s) : St T s (nameS T s) 1 0 0 := by
 unfold nameS
 by_cases hb : (tokA T s).k = 3
 ·rw [if_pos hb]
  exact (next_St hT h (by omega)).2.2
 ·rw [if_neg hb]
  exact fail_St hT h (by decide)
theorem open_St (hT : EndT T) {s : PS} (h : Okk T s) (x : List UInt8) : St T s (openS T x s) 1 0 0 := by
 unfold openS
 by_cases hb : (isS T [x] s && decide (16 ≤ s.dp)) = true
 ·rw [if_pos hb]
  have h1 := fail_St hT h (e := 21) (by decide)
  exact h1.trans (want_St hT h1.1 x)
 ·rw [if_neg hb]
  exact want_St hT h x
theorem next_nd (s : PS) : (nextS T s).nd = s.nd := by
 unfold nextS
 split <;> rfl
theorem fail_nd (e : Nat) (s : PS) : (failS T e s).nd = s.nd := by
 unfold failS
 split <;> rfl
theorem want_nd (x : List UInt8) (s : PS) : (wantS T x s).nd = s.nd := by
 unfold wantS
 split
 ·exact next_nd s
 ·exact fail_nd 20 s
theorem open_nd (x : List UInt8) (s : PS) : (openS T x s).nd = s.nd := by
 unfold openS
 rw [want_nd]
 split
 ·exact fail_nd 21 s
 ·rfl
theorem deep_runs {s : PS} (d : Int) (h : -900000 ≤ s.dp ∧ s.dp ≤ 900001) : Runs (deepS d) s (fun _ s' => s' = { s with dp := s.dp + d }) :=
 ⟨(), _, if_pos (by omega), rfl⟩
theorem deep_St {s : PS} (d : Int) (h : Okk T s) : St T s { s with dp := s.dp + d } 0 0 d := ⟨h, Nat.le_refl _, Nat.le_refl _, rfl⟩
theorem node_runs {s : PS} (h : Rm T s ∨ (Okk T s ∧ s.nd.length ≤ 99000)) (n : Nd) (l : List Int) : Runs (nodeM n l) s (fun _ s' => St T s s' 0 1 0) := by
 have h0 : Okk T s ∧ s.nd.length ≤ 99000 := by
  rcases h with h | h
  ·obtain ⟨h1, h2, h3, h4⟩ := h
   exact ⟨h1, by omega⟩
  ·exact h
 refine ⟨_, _, if_pos (by omega), h0.1, Nat.le_refl _, ?_, ?_⟩
 ·show (s.nd ++ [_]).length + _ ≤ _
  rw [List.length_append]
  show s.nd.length + 1 + 10 * mu T s ≤ _
  omega
 ·show s.dp = _
  omega
theorem open_runs (hT : EndT T) {s : PS} (h : Okk T s) (hd : -900000 ≤ s.dp ∧ s.dp ≤ 900001) (x : List UInt8) : Runs (openM T x) s (fun _ s' => St T s s' 1 0 1 ∧ s'.nd.length = s.nd.length) := by
 unfold openM
 refine Runs.mod ?_
 have h1 := open_St hT h x
 have h4 := h1.2.2.2
 refine (deep_runs 1 (by omega)).mono ?_
 rintro a s' rfl
 refine ⟨h1.trans (deep_St 1 h1.1), ?_⟩
 show (openS T x s).nd.length = _
 rw [open_nd]
theorem shut_runs (hT : EndT T) {s : PS} (h : Okk T s) (hd : -900000 ≤ s.dp ∧ s.dp ≤ 900001) (x : List UInt8) : Runs (shutM T x) s (fun _ s' => St T s s' 1 0 (-1)) := by
 unfold shutM
 refine Runs.mod ?_
 have h1 := want_St hT h x
 have h4 := h1.2.2.2
 refine (deep_runs (-1) (by omega)).mono ?_
 rintro a s' rfl
 exact h1.trans (deep_St (-1) h1.1)
end
end Go.Proofs.YtbhpnioggpgbhaaGreatDoor

/-! Expressions. -/
namespace Go.Proofs.YtbhpnioggpgbhaaGreatDoor
set_option linter.unusedVariables false
set_option linter.unusedSimpArgs false
section
variable {src : List UInt8} {T : List Tok}
theorem inside_runs (hT : EndT T) {ex : PM Int} {a b : List UInt8} {s : PS} (hs : Rm T s) (hm : 1 ≤ mu T s)
  (hx : ∀ s1, Rm T s1 → mu T s1 + 1 ≤ mu T s → Runs ex s1 (fun _ s' => St T s1 s' 1 1 0)) : Runs (insideM T ex a b) s (fun _ s' => St T s s' 1 1 0) := by
 obtain ⟨o, r1, r2, r3⟩ := hs
 unfold insideM
 refine Runs.bind (open_runs hT o (by omega) a) ?_
 rintro _ s1 ⟨⟨o1, m1, n1, d1⟩, e1⟩
 refine Runs.bind (hx s1 ⟨o1, by omega, by omega, by omega⟩ (by omega)) ?_
 rintro x s2 ⟨o2, m2, n2, d2⟩
 refine Runs.bind (shut_runs hT o2 (by omega) b) ?_
 rintro _ s3 ⟨o3, m3, n3, d3⟩
 exact Runs.pure ⟨o3, by omega, by omega, by omega⟩
theorem variable_runs (hT : EndT T) {ex : PM Int} {s : PS} (ln : Int) (hs : Rm T s)
  (hx : ∀ s1, Rm T s1 → mu T s1 + 1 ≤ mu T s → Runs ex s1 (fun _ s' => St T s1 s' 1 1 0)) : Runs (variableM T ex ln) s (fun _ s' => St T s s' 1 1 0) := by
 obtain ⟨o, r1, r2, r3⟩ := hs
 unfold variableM
 refine Runs.ask ?_
 refine Runs.mod ?_
 obtain ⟨o1, m1, n1, d1⟩ := name_St hT o
 generalize nameS T s = s1 at *
 refine Runs.ask ?_
 try dsimp only
 by_cases hb : isS T [[91]] s1 = true
 ·rw [if_pos hb]
  have hn := (next_St hT o1 (isS_k hb)).1
  refine Runs.bind (inside_runs hT ⟨o1, by omega, by omega, by omega⟩ (by omega) (fun s2 h2 h3 => hx s2 h2 (by omega))) ?_
  rintro y s2 ⟨o2, m2, n2, d2⟩
  refine (node_runs (.inr ⟨o2, by omega⟩) _ _).mono ?_
  rintro _ s3 ⟨o3, m3, n3, d3⟩
  exact ⟨o3, by omega, by omega, by omega⟩
 ·rw [if_neg hb]
  refine (node_runs (.inr ⟨o1, by omega⟩) _ _).mono ?_
  rintro _ s3 ⟨o3, m3, n3, d3⟩
  exact ⟨o3, by omega, by omega, by omega⟩
/-- One token on, then a node. -/
theorem next_node (hT : EndT T) {s : PS} (hs : Rm T s) (hk : (tokA T s).k ≠ 0) (n : Nd) (l : List Int) : Runs (do mod (nextS T); nodeM n l) s (fun _ s' => St T s s' 1 1 0) := by
 obtain ⟨o, r1, r2, r3⟩ := hs
 obtain ⟨hn, hn1, o1, m1, n1, d1⟩ := next_St hT o hk
 refine Runs.mod ?_
 refine (node_runs (.inr ⟨o1, by omega⟩) _ _).mono ?_
 rintro _ s3 ⟨o3, m3, n3, d3⟩
 exact ⟨o3, by omega, by omega, by omega⟩
theorem atom_runs (hT : EndT T) {ex : PM Int} {s : PS} (hs : Rm T s)
  (hx : ∀ s1, Rm T s1 → mu T s1 + 1 ≤ mu T s → Runs ex s1 (fun _ s' => St T s1 s' 1 1 0)) : Runs (atomM src T ex) s (fun _ s' => St T s s' 1 1 0) := by
 unfold atomM
 refine Runs.ask ?_
 refine Runs.ask ?_
 try dsimp only
 by_cases h1 : (tokA T s).k = 1
 ·rw [if_pos h1]
  exact next_node hT hs (by omega) _ _
 rw [if_neg h1]
 by_cases h2 : (tokA T s).k = 2
 ·rw [if_pos h2]
  exact next_node hT hs (by omega) _ _
 rw [if_neg h2]
 refine Runs.ask ?_
 try dsimp only
 by_cases hb : isS T [[116, 114, 117, 101], [102, 97, 108, 115, 101]] s = true
 ·rw [if_pos hb]
  exact next_node hT hs (isS_k hb) _ _
 rw [if_neg hb]
 clear hb
 refine Runs.ask ?_
 try dsimp only
 by_cases hb : isS T [[108, 101, 110]] s = true
 ·rw [if_pos hb]
  obtain ⟨o, r1, r2, r3⟩ := hs
  obtain ⟨hn, hn1, o1, m1, n1, d1⟩ := next_St hT o (isS_k hb)
  refine Runs.mod ?_
  try dsimp only
  generalize nextS T s = s1 at *
  refine Runs.bind (inside_runs hT ⟨o1, by omega, by omega, by omega⟩ (by omega) (fun s2 h2 h3 => hx s2 h2 (by omega))) ?_
  rintro y s2 ⟨o2, m2, n2, d2⟩
  refine (node_runs (.inr ⟨o2, by omega⟩) _ _).mono ?_
  rintro _ s3 ⟨o3, m3, n3, d3⟩
  exact ⟨o3, by omega, by omega, by omega⟩
 rw [if_neg hb]
 clear hb
 refine Runs.ask ?_
 try dsimp only
 by_cases hb : isS T [[40]] s = true
 ·rw [if_pos hb]
  have hn := (next_St hT hs.1 (isS_k hb)).1
  exact inside_runs hT hs (by omega) hx
 rw [if_neg hb]
 exact variable_runs hT _ hs hx
theorem sign_runs (hT : EndT T) {fac : PM Int} {s : PS} (hs : Rm T s) (hm : 2 ≤ mu T s) (x : List UInt8) (n : Nd)
  (hf : ∀ s1, Rm T s1 → mu T s1 + 1 ≤ mu T s → Runs fac s1 (fun _ s' => St T s1 s' 1 1 0)) :
  Runs (do openM T x; let y ← fac; deepS (-1); nodeM n [y]) s (fun _ s' => St T s s' 1 1 0) := by
 obtain ⟨o, r1, r2, r3⟩ := hs
 refine Runs.bind (open_runs hT o (by omega) x) ?_
 rintro _ s1 ⟨⟨o1, m1, n1, d1⟩, e1⟩
 refine Runs.bind (hf s1 ⟨o1, by omega, by omega, by omega⟩ (by omega)) ?_
 rintro y s2 ⟨o2, m2, n2, d2⟩
 refine Runs.bind (deep_runs (-1) (by omega)) ?_
 rintro _ s3 rfl
 obtain ⟨o3, m3, n3, d3⟩ := deep_St (-1) o2
 generalize ({ s2 with dp := s2.dp + -1 } : PS) = s3 at *
 refine (node_runs (.inr ⟨o3, by omega⟩) _ _).mono ?_
 rintro _ s4 ⟨o4, m4, n4, d4⟩
 exact ⟨o4, by omega, by omega, by omega⟩
theorem factor_runs (hT : EndT T) {fac ex : PM Int} {s : PS} (hs : Rm T s)
  (hf : ∀ s1, Rm T s1 → mu T s1 + 1 ≤ mu T s → Runs fac s1 (fun _ s' => St T s1 s' 1 1 0))
  (hx : ∀ s1, Rm T s1 → mu T s1 + 1 ≤ mu T s → Runs ex s1 (fun _ s' => St T s1 s' 1 1 0)) : Runs (factorM src T fac ex) s (fun _ s' => St T s s' 1 1 0) := by
 unfold factorM
 refine Runs.ask ?_
 refine Runs.ask ?_
 refine Runs.ask ?_
 try dsimp only
 by_cases hb : isS T [[33]] s = true
 ·rw [if_pos hb]
  exact sign_runs hT hs (next_St hT hs.1 (isS_k hb)).1 _ _ hf
 rw [if_neg hb]
 clear hb
 refine Runs.ask ?_
 try dsimp only
 by_cases hb : isS T [[45]] s = true
 ·rw [if_pos hb]
  exact sign_runs hT hs (next_St hT hs.1 (isS_k hb)).1 _ _ hf
 rw [if_neg hb]
 exact atom_runs hT hs hx
theorem chain_runs (hT : EndT T) {lv : Nat} {sub : PM Int} (ln : Int) (M : Nat)
  (hsub : ∀ s1, Rm T s1 → mu T s1 + 1 ≤ M → Runs sub s1 (fun _ s' => St T s1 s' 1 1 0)) :
  ∀ n (x : Int) s, Okk T s → 0 ≤ s.dp → s.dp + mu T s ≤ 900000 → s.nd.length + 10 * mu T s ≤ 90001 → mu T s ≤ M → mu T s + 1 ≤ n → Runs (chainR T lv sub ln n x) s (fun _ s' => St T s s' 0 0 0) := by
 intro n
 induction n with
 | zero => intro x s _ _ _ _ _ h; exact absurd h (by omega)
 | succ n ih =>
  intro x s o r1 r2 r3 hM hn
  unfold chainR
  refine Runs.ask ?_
  try dsimp only
  by_cases hb : isS T (signsL lv) s = true
  ·rw [if_pos hb]
   refine Runs.ask ?_
   refine Runs.mod ?_
   obtain ⟨hn, hn1, o1, m1, n1, d1⟩ := next_St hT o (isS_k hb)
   try dsimp only
   generalize nextS T s = s1 at *
   refine Runs.bind (hsub s1 ⟨o1, by omega, by omega, by omega⟩ (by omega)) ?_
   rintro y s2 ⟨o2, m2, n2, d2⟩
   refine Runs.bind (node_runs (.inr ⟨o2, by omega⟩) _ _) ?_
   rintro z s3 ⟨o3, m3, n3, d3⟩
   by_cases hl : lv = 2
   ·rw [if_pos hl]
    exact Runs.pure ⟨o3, by omega, by omega, by omega⟩
   ·rw [if_neg hl]
    refine (ih z s3 o3 (by omega) (by omega) (by omega) (by omega) (by omega)).mono ?_
    rintro _ s4 ⟨o4, m4, n4, d4⟩
    exact ⟨o4, by omega, by omega, by omega⟩
  ·rw [if_neg hb]
   exact Runs.pure ⟨o, by omega, by omega, by omega⟩
theorem ex_runs (hT : EndT T) : ∀ n lv s, lv ≤ 5 → Rm T s → 6 * mu T s + 6 - lv ≤ n → Runs (exM src T n lv) s (fun _ s' => St T s s' 1 1 0) := by
 intro n
 induction n with
 | zero => intro lv s h1 _ h; exact absurd h (by omega)
 | succ n ih =>
  intro lv s hl hs hn
  unfold exM
  by_cases h5 : lv = 5
  ·rw [if_pos h5]
   exact factor_runs hT hs (fun s1 h1 h2 => ih 5 s1 (by omega) h1 (by omega)) (fun s1 h1 h2 => ih 0 s1 (by omega) h1 (by omega))
  ·rw [if_neg h5]
   refine Runs.ask ?_
   refine Runs.bind (ih (lv + 1) s (by omega) hs (by omega)) ?_
   obtain ⟨o, r1, r2, r3⟩ := hs
   rintro x s1 ⟨o1, m1, n1, d1⟩
   refine (chain_runs hT _ (mu T s) (fun s2 h2 h3 => ih (lv + 1) s2 (by omega) h2 (by omega)) n x s1 o1 (by omega) (by omega) (by omega) (by omega) (by omega)).mono ?_
   rintro _ s2 ⟨o2, m2, n2, d2⟩
   exact ⟨o2, by omega, by omega, by omega⟩
end
end Go.Proofs.YtbhpnioggpgbhaaGreatDoor
