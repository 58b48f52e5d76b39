/-
  Layer 1: what a source is as tokens, as data. Written by an AI agent.
  Layer 1: lines of a source, as data. Written by an AI agent.
  Layer 2: what the program's parser does, as data, step by step. Written by an AI agent.
  Layer 2: what the program's parser does with statements and functions, as data. Written by an AI agent.
-/
import Derived.Lib.Bytealg
namespace Go.Proofs.YtgelggdgbmldiaaDoor
set_option linter.unusedVariables false
set_option linter.unusedSimpArgs false
def dig (c : UInt8) : Bool := decide (48 ≤ c.toNat) && decide (c.toNat ≤ 57)
def ltr (c : UInt8) : Bool := (decide (97 ≤ c.toNat) && decide (c.toNat ≤ 122)) || (decide (65 ≤ c.toNat) && decide (c.toNat ≤ 90))
def blk (c : UInt8) : Bool := (decide (c.toNat = 32) || decide (c.toNat = 9)) || (decide (c.toNat = 13) || decide (c.toNat = 10))
def nmc (c : UInt8) : Bool := (ltr c || dig c) || decide (c.toNat = 95)
def txc (c : UInt8) : Bool := (decide (32 ≤ c.toNat) && decide (c.toNat ≤ 126)) && !decide (c.toNat = 34)
/-- How many bytes at the beginning are of a kind. -/
def runL (p : UInt8 → Bool) : List UInt8 → Nat
  | [] => 0
  | c :: r => if p c then runL p r + 1 else 0
theorem runL_le (p : UInt8 → Bool) (l : List UInt8) : runL p l ≤ l.length := by
  induction l with
  | nil => exact Nat.le_refl _
  | cons c r ih => unfold runL; split <;> simp <;> omega
theorem runL_all (p : UInt8 → Bool) (l : List UInt8) : ∀ c ∈ l.take (runL p l), p c = true := by
  induction l with
  | nil => intro c h; simp at h
  | cons d r ih =>
    intro c h
    unfold runL at h
    split at h
    · rename_i hd
      rw [List.take_succ_cons, List.mem_cons] at h
      rcases h with rfl | h
      · exact hd
      · exact ih c h
    · simp at h
theorem runL_stop (p : UInt8 → Bool) (l : List UInt8) (c : UInt8) (h : l[runL p l]? = some c) : p c = false := by
  induction l with
  | nil => simp [runL] at h
  | cons d r ih =>
    unfold runL at h
    split at h
    · exact ih (by simpa using h)
    · rename_i hd
      have : d = c := by simpa using h
      rw [← this]
      simpa using hd
theorem runL_append (p : UInt8 → Bool) (a b : List UInt8) (ha : ∀ c ∈ a, p c = true) : runL p (a ++ b) = a.length + runL p b := by
  induction a with
  | nil => simp
  | cons d r ih =>
    rw [List.cons_append]
    show (if p d then runL p (r ++ b) + 1 else 0) = _
    rw [if_pos (ha d (by simp)), ih fun c hc => ha c (by simp [hc]), List.length_cons]
    omega
theorem runL_cons_false (p : UInt8 → Bool) (c : UInt8) (r : List UInt8) (h : p c = false) : runL p (c :: r) = 0 := by
  show (if p c then _ else 0) = 0
  rw [h]
  rfl
theorem runL_whole (p : UInt8 → Bool) (a : List UInt8) (ha : ∀ c ∈ a, p c = true) : runL p a = a.length := by
  have := runL_append p a [] ha
  simpa [runL] using this
/-- Cut behind what is of the kind, it is as long. -/
theorem runL_take (p : UInt8 → Bool) (l : List UInt8) (n : Nat) (h : runL p l ≤ n) : runL p (l.take n) = runL p l := by
  induction l generalizing n with
  | nil => simp [runL]
  | cons d r ih =>
    cases n with
    | zero =>
      have h0 : runL p (d :: r) = 0 := Nat.le_zero.1 h
      rw [h0]
      rfl
    | succ n =>
      rw [List.take_succ_cons]
      show (if p d then runL p (r.take n) + 1 else 0) = (if p d then runL p r + 1 else 0)
      by_cases hd : p d = true
      · rw [if_pos hd, if_pos hd, ih n (by
          have : runL p (d :: r) = runL p r + 1 := by show (if p d then _ else 0) = _; rw [if_pos hd]
          omega)]
      · rw [if_neg hd, if_neg hd]
/-- The number of digits. -/
def numV (l : List UInt8) : Nat := l.foldl (fun a c => a * 10 + (c.toNat - 48)) 0
def wordsL : List (List UInt8) := [[102, 110], [108, 101, 116], [105, 102], [101, 108, 115, 101], [119, 104, 105, 108, 101], [114, 101, 116, 117, 114, 110], [112, 114, 105, 110, 116], [105, 110, 112, 117, 116],
  [110, 101, 119], [108, 101, 110], [116, 114, 117, 101], [102, 97, 108, 115, 101], [105, 110, 116], [98, 111, 111, 108], [116, 101, 120, 116], [108, 105, 115, 116]]
def isWord (l : List UInt8) : Bool := wordsL.contains l
def twosL : List (List UInt8) := [[124, 124], [38, 38], [60, 61], [61, 61], [33, 61]]
def onesL : List UInt8 := [40, 41, 123, 125, 91, 93, 44, 59, 61, 60, 43, 45, 42, 47, 37, 33]
def isTwo (l : List UInt8) : Bool := twosL.any (fun t => t.isPrefixOf l)
/-- The kind, the size and the error of the first token. -/
def numberL (l : List UInt8) : Nat × Nat × Nat := if numV (l.take (runL dig l)) ≤ 9223372036854775807 ∧ runL dig l ≤ 19 then (1, runL dig l, 0) else (0, 0, 12)
def nameL (l : List UInt8) : Nat × Nat × Nat := if isWord (l.take (runL nmc l)) then (4, runL nmc l, 0) else if 8 < runL nmc l then (0, 0, 13) else (3, runL nmc l, 0)
def textL (r : List UInt8) : Nat × Nat × Nat := if r[runL txc r]? = some 34 then (if 12 < runL txc r then (0, 0, 4) else (2, runL txc r + 2, 0)) else (0, 0, 11)
def signL (l : List UInt8) : Nat × Nat × Nat := if isTwo l then (5, 2, 0) else if onesL.contains (l.headD 0) then (5, 1, 0) else (0, 0, 10)
def firstL (l : List UInt8) : Nat × Nat × Nat :=
  if dig (l.headD 0) then numberL l else if ltr (l.headD 0) then nameL l else if l.headD 0 = 34 then textL l.tail else signL l
theorem firstL_cons (c : UInt8) (r : List UInt8) : firstL (c :: r) = if dig c then numberL (c :: r) else if ltr c then nameL (c :: r) else if c = 34 then textL r else signL (c :: r) := rfl
theorem signL_cons (c : UInt8) (r : List UInt8) : signL (c :: r) = if isTwo (c :: r) then (5, 2, 0) else if onesL.contains c then (5, 1, 0) else (0, 0, 10) := rfl
/-- What a token says. -/
def saidL (k : Nat) (l : List UInt8) : List UInt8 := if k = 2 then (l.take (l.length - 1)).drop 1 else l
structure Tok where
  k : Nat
  x : List UInt8
  p : Nat
instance : Inhabited Tok := ⟨⟨0, [], 0⟩⟩
def isRem (l : List UInt8) : Bool := ([47, 47] : List UInt8).isPrefixOf l
/-- The tokens of what is left, from a place on; and where it fails, and how. -/
def lexF : Nat → List UInt8 → Nat → List Tok × Option (Nat × Nat)
  | 0, l, p => ([⟨0, [], p⟩], none)
  | n + 1, [], p => ([⟨0, [], p⟩], none)
  | n + 1, c :: r, p =>
    if blk c then lexF n r (p + 1)
    else if isRem (c :: r) then
      (if runL (fun d => !decide (d = 10)) (c :: r) = (c :: r).length then ([⟨0, [], p + (c :: r).length⟩], none)
       else lexF n ((c :: r).drop (runL (fun d => !decide (d = 10)) (c :: r))) (p + runL (fun d => !decide (d = 10)) (c :: r)))
    else if (firstL (c :: r)).2.2 = 0 then
      (⟨(firstL (c :: r)).1, saidL (firstL (c :: r)).1 ((c :: r).take (firstL (c :: r)).2.1), p⟩ :: (lexF n ((c :: r).drop (firstL (c :: r)).2.1) (p + (firstL (c :: r)).2.1)).1,
       (lexF n ((c :: r).drop (firstL (c :: r)).2.1) (p + (firstL (c :: r)).2.1)).2)
    else ([], some (p, (firstL (c :: r)).2.2))
def lexL (l : List UInt8) (p : Nat) : List Tok × Option (Nat × Nat) := lexF l.length l p
theorem first_size (l : List UInt8) (hl : l ≠ []) (h : (firstL l).2.2 = 0) : 1 ≤ (firstL l).2.1 ∧ (firstL l).2.1 ≤ l.length := by
  obtain ⟨c, r, rfl⟩ := List.exists_cons_of_ne_nil hl
  rw [firstL_cons] at h ⊢
  by_cases h1 : dig c = true
  · rw [if_pos h1] at h ⊢
    have hr : runL dig (c :: r) = runL dig r + 1 := by show (if dig c then _ else 0) = _; rw [if_pos h1]
    have := runL_le dig (c :: r)
    unfold numberL at h ⊢
    split at h
    · rename_i hc
      rw [if_pos hc]
      show 1 ≤ runL dig (c :: r) ∧ runL dig (c :: r) ≤ _
      omega
    · cases h
  · rw [if_neg h1] at h ⊢
    by_cases h2 : ltr c = true
    · rw [if_pos h2] at h ⊢
      have hn : nmc c = true := by unfold nmc; rw [h2]; rfl
      have hr : runL nmc (c :: r) = runL nmc r + 1 := by show (if nmc c then _ else 0) = _; rw [if_pos hn]
      have := runL_le nmc (c :: r)
      unfold nameL at h ⊢
      split at h
      · rename_i hc
        rw [if_pos hc]
        show 1 ≤ runL nmc (c :: r) ∧ runL nmc (c :: r) ≤ _
        omega
      · rename_i hc
        rw [if_neg hc]
        split at h
        · cases h
        · rename_i hc
          rw [if_neg hc]
          show 1 ≤ runL nmc (c :: r) ∧ runL nmc (c :: r) ≤ _
          omega
    · rw [if_neg h2] at h ⊢
      by_cases h3 : c = 34
      · rw [if_pos h3] at h ⊢
        unfold textL at h ⊢
        split at h
        · rename_i hc
          rw [if_pos hc]
          split at h
          · cases h
          · rename_i hd
            rw [if_neg hd]
            have : runL txc r < r.length := (List.getElem?_eq_some_iff.1 hc).1
            show 1 ≤ runL txc r + 2 ∧ runL txc r + 2 ≤ (c :: r).length
            rw [List.length_cons]
            omega
        · cases h
      · rw [if_neg h3] at h ⊢
        rw [signL_cons] at h ⊢
        split at h
        · rename_i hc
          rw [if_pos hc]
          refine ⟨by decide, ?_⟩
          show 2 ≤ (c :: r).length
          unfold isTwo at hc
          rw [List.any_eq_true] at hc
          obtain ⟨t, ht, hp⟩ := hc
          have h5 : t.length = 2 := by
            simp only [twosL, List.mem_cons, List.not_mem_nil, or_false] at ht
            rcases ht with rfl | rfl | rfl | rfl | rfl <;> rfl
          have h6 := (List.isPrefixOf_iff_prefix.1 hp).length_le
          omega
        · rename_i hc
          rw [if_neg hc]
          split at h
          · rename_i hd
            rw [if_pos hd]
            refine ⟨Nat.le_refl _, ?_⟩
            show 1 ≤ (c :: r).length
            rw [List.length_cons]
            omega
          · cases h
theorem rem_size (l : List UInt8) (h : isRem l = true) : 2 ≤ runL (fun d => !decide (d = 10)) l := by
  unfold isRem at h
  obtain ⟨t, rfl⟩ := List.isPrefixOf_iff_prefix.1 h
  rw [runL_append _ _ _ (by decide)]
  simp
theorem lexF_fuel (n m : Nat) (l : List UInt8) (p : Nat) (hn : l.length ≤ n) (hm : l.length ≤ m) : lexF n l p = lexF m l p := by
  induction n generalizing m l p with
  | zero =>
    have : l = [] := List.length_eq_zero_iff.1 (by omega)
    subst this
    cases m <;> rfl
  | succ n ih =>
    cases l with
    | nil => cases m <;> rfl
    | cons c r =>
      cases m with
      | zero => simp at hm
      | succ m =>
        simp only [List.length_cons] at hn hm
        unfold lexF
        by_cases h1 : blk c = true
        · rw [if_pos h1, if_pos h1, ih m r (p + 1) (by omega) (by omega)]
        · rw [if_neg h1, if_neg h1]
          by_cases h2 : isRem (c :: r) = true
          · rw [if_pos h2, if_pos h2]
            have := rem_size _ h2
            split
            · rfl
            · exact ih m _ _ (by rw [List.length_drop, List.length_cons]; omega) (by rw [List.length_drop, List.length_cons]; omega)
          · rw [if_neg h2, if_neg h2]
            by_cases h3 : (firstL (c :: r)).2.2 = 0
            · have h4 := first_size (c :: r) (by simp) h3
              rw [if_pos h3, if_pos h3, ih m _ _ (by rw [List.length_drop, List.length_cons]; omega) (by rw [List.length_drop, List.length_cons]; omega)]
            · rw [if_neg h3, if_neg h3]
theorem lexL_nil (p : Nat) : lexL [] p = ([⟨0, [], p⟩], none) := rfl
theorem lexL_blank {c : UInt8} {r : List UInt8} {p : Nat} (h : blk c = true) : lexL (c :: r) p = lexL r (p + 1) := by
  unfold lexL
  rw [List.length_cons]
  conv => lhs; unfold lexF
  rw [if_pos h]
theorem lexL_rem_end {c : UInt8} {r : List UInt8} {p : Nat} (h0 : blk c = false) (h : isRem (c :: r) = true) (he : runL (fun d => !decide (d = 10)) (c :: r) = (c :: r).length) : lexL (c :: r) p = ([⟨0, [], p + (c :: r).length⟩], none) := by
  unfold lexL
  rw [List.length_cons]
  conv => lhs; unfold lexF
  rw [if_neg (by rw [h0]; decide), if_pos h, if_pos he]
  rfl
theorem lexL_rem {c : UInt8} {r : List UInt8} {p : Nat} (h0 : blk c = false) (h : isRem (c :: r) = true) (he : ¬ runL (fun d => !decide (d = 10)) (c :: r) = (c :: r).length) :
    lexL (c :: r) p = lexL ((c :: r).drop (runL (fun d => !decide (d = 10)) (c :: r))) (p + runL (fun d => !decide (d = 10)) (c :: r)) := by
  have h2 := rem_size _ h
  unfold lexL
  rw [List.length_cons]
  conv => lhs; unfold lexF
  rw [if_neg (by rw [h0]; decide), if_pos h, if_neg he]
  exact lexF_fuel _ _ _ _ (by rw [List.length_drop, List.length_cons]; omega) (Nat.le_refl _)
theorem lexL_bad {c : UInt8} {r : List UInt8} {p : Nat} (h0 : blk c = false) (h : isRem (c :: r) = false) (he : ¬ (firstL (c :: r)).2.2 = 0) : lexL (c :: r) p = ([], some (p, (firstL (c :: r)).2.2)) := by
  unfold lexL
  rw [List.length_cons]
  conv => lhs; unfold lexF
  rw [if_neg (by rw [h0]; decide), if_neg (by rw [h]; decide), if_neg he]
theorem lexL_tok {c : UInt8} {r : List UInt8} {p : Nat} (h0 : blk c = false) (h : isRem (c :: r) = false) (he : (firstL (c :: r)).2.2 = 0) :
    lexL (c :: r) p = (⟨(firstL (c :: r)).1, saidL (firstL (c :: r)).1 ((c :: r).take (firstL (c :: r)).2.1), p⟩ :: (lexL ((c :: r).drop (firstL (c :: r)).2.1) (p + (firstL (c :: r)).2.1)).1,
       (lexL ((c :: r).drop (firstL (c :: r)).2.1) (p + (firstL (c :: r)).2.1)).2) := by
  have h2 := first_size (c :: r) (by simp) he
  unfold lexL
  rw [List.length_cons]
  conv => lhs; unfold lexF
  rw [if_neg (by rw [h0]; decide), if_neg (by rw [h]; decide), if_pos he, lexF_fuel r.length ((c :: r).drop (firstL (c :: r)).2.1).length _ _ (by rw [List.length_drop, List.length_cons]; omega) (Nat.le_refl _)]
end Go.Proofs.YtgelggdgbmldiaaDoor

namespace Go.Proofs.YtgelggdgbmldiaaDoor
set_option linter.unusedVariables false
set_option linter.unusedSimpArgs false
def lineL (l : List UInt8) (a : Int) : Nat := if a < 0 then 1 else 1 + (l.take a.toNat).count 10
def stepL (l : List UInt8) (a : Int) : Nat := if 0 ≤ a ∧ l[a.toNat]? = some 10 then 1 else 0
theorem line_next (l : List UInt8) (a : Int) : lineL l (a + 1) = lineL l a + stepL l a := by
  by_cases h : a < 0
  · have hs : stepL l a = 0 := by unfold stepL; rw [if_neg (by omega)]
    have h1 : lineL l a = 1 := by unfold lineL; rw [if_pos h]
    rw [hs, h1]
    unfold lineL
    by_cases h2 : a + 1 < 0
    · rw [if_pos h2]
    · rw [if_neg h2, show (a + 1).toNat = 0 by omega]
      simp
  · unfold lineL
    rw [if_neg (by omega), if_neg h, show (a + 1).toNat = a.toNat + 1 by omega, List.take_add_one, List.count_append]
    unfold stepL
    cases hc : l[a.toNat]? with
    | none => simp
    | some c =>
      by_cases h10 : c = 10
      · rw [if_pos ⟨by omega, by rw [h10]⟩, h10]
        simp
        omega
      · rw [if_neg (by rintro ⟨_, e⟩; exact h10 (Option.some.inj e))]
        simp [h10]
end Go.Proofs.YtgelggdgbmldiaaDoor

namespace Go.Proofs.YtgelggdgbmldiaaDoor
set_option linter.unusedVariables false
set_option linter.unusedSimpArgs false
structure Nd where
  k : Int
  ln : Int
  n : Int
  s : List UInt8
  l : List Int
structure PS where
  i : Nat
  pl : Nat
  er : Nat
  nd : List Nd
  dp : Int
abbrev PM := StateT PS Option
theorem bind_out {α β : Type} {m : PM α} {f : α → PM β} {s : PS} {r : β × PS} (h : (m >>= f) s = some r) : ∃ a s1, m s = some (a, s1) ∧ f a s1 = some r := by
  have h1 : (m s).bind (fun p => f p.1 p.2) = some r := h
  cases hm : m s with
  | none => rw [hm] at h1; cases h1
  | some p => rw [hm] at h1; exact ⟨p.1, p.2, rfl, h1⟩
theorem pure_out {α : Type} {a : α} {s : PS} {r : α × PS} (h : (pure a : PM α) s = some r) : r = (a, s) := (Option.some.inj h).symm
theorem bind_in {α β : Type} {m : PM α} {f : α → PM β} {s s1 : PS} {a : α} (h : m s = some (a, s1)) : (m >>= f) s = f a s1 := by
  show (m s).bind (fun p => f p.1 p.2) = _
  rw [h]
  rfl
section
variable (src : List UInt8) (T : List Tok)
def tokA (s : PS) : Tok := T.getD s.i default
def isS (ts : List (List UInt8)) (s : PS) : Bool := (decide ((tokA T s).k = 5) || decide ((tokA T s).k = 4)) && ts.contains (tokA T s).x
def callsS (s : PS) : Bool := decide ((tokA T s).k = 3) && (decide ((T.getD (s.i + 1) default).k = 5) && decide ((T.getD (s.i + 1) default).x = [40]))
def lineS (s : PS) : Int := (lineL src ((tokA T s).p : Int) : Nat)
def nextS (s : PS) : PS := if s.i < T.length - 1 then { s with i := s.i + 1 } else s
def failS (e : Nat) (s : PS) : PS := if s.er = 0 then { s with pl := (tokA T s).p, er := e, i := T.length - 1 } else s
def wantS (x : List UInt8) (s : PS) : PS := if isS T [x] s then nextS T s else failS T 20 s
def nameS (s : PS) : PS := if (tokA T s).k = 3 then nextS T s else failS T 20 s
def nameX (s : PS) : List UInt8 := if (tokA T s).k = 3 then (tokA T s).x else []
def mod (f : PS → PS) : PM Unit := fun s => some ((), f s)
def ask {α : Type} (f : PS → α) : PM α := fun s => some (f s, s)
def nodeM (n : Nd) (l : List Int) : PM Int := fun s => if s.nd.length < 100000 then some ((s.nd.length : Int), { s with nd := s.nd ++ [{ n with l := l }] }) else none
def deepS (d : Int) : PM Unit := fun s => if -1000000 < s.dp ∧ s.dp < 1000000 then some ((), { s with dp := s.dp + d }) else none
def openS (x : List UInt8) (s : PS) : PS := wantS T x (if isS T [x] s && decide (16 ≤ s.dp) then failS T 21 s else s)
def openM (x : List UInt8) : PM Unit := do mod (openS T x); deepS 1
def shutM (x : List UInt8) : PM Unit := do mod (wantS T x); deepS (-1)
/-- What is between two signs. -/
def insideM (ex : PM Int) (a b : List UInt8) : PM Int := do
  openM T a
  let x ← ex
  shutM T b
  pure x
def variableM (ex : PM Int) (ln : Int) : PM Int := do
  let x ← ask (nameX T)
  mod (nameS T)
  let b ← ask (isS T [[91]])
  if b then (do
    let y ← insideM T ex [91] [93]
    nodeM ⟨5, ln, 0, x, []⟩ [y])
  else nodeM ⟨4, ln, 0, x, []⟩ []
/-- The number of digits, as far as it goes. -/
def intV (x : List UInt8) : Int := if numV x ≤ 9223372036854775807 then (numV x : Int) else 9223372036854775807
def atomM (ex : PM Int) : PM Int := do
  let ln ← ask (lineS src T)
  let k ← ask (tokA T)
  if k.k = 1 then (do
    mod (nextS T)
    nodeM ⟨1, ln, intV k.x, [], []⟩ [])
  else if k.k = 2 then (do
    mod (nextS T)
    nodeM ⟨3, ln, 0, k.x, []⟩ [])
  else do
    let b ← ask (isS T [[116, 114, 117, 101], [102, 97, 108, 115, 101]])
    if b then (do
      mod (nextS T)
      nodeM ⟨2, ln, if k.x = [116, 114, 117, 101] then 1 else 0, [], []⟩ [])
    else do
      let b ← ask (isS T [[108, 101, 110]])
      if b then (do
        mod (nextS T)
        let x ← insideM T ex [40] [41]
        nodeM ⟨6, ln, 0, [], []⟩ [x])
      else do
        let b ← ask (isS T [[40]])
        if b then insideM T ex [40] [41]
        else variableM T ex ln
def factorM (fac ex : PM Int) : PM Int := do
  let ln ← ask (lineS src T)
  let k ← ask (tokA T)
  let b ← ask (isS T [[33]])
  if b then (do
    openM T k.x
    let x ← fac
    deepS (-1)
    nodeM ⟨8, ln, 0, [], []⟩ [x])
  else do
    let b ← ask (isS T [[45]])
    if b then (do
      openM T k.x
      let x ← fac
      deepS (-1)
      nodeM ⟨7, ln, 0, [], []⟩ [x])
    else atomM src T ex
def signsL : Nat → List (List UInt8)
  | 0 => [[124, 124]]
  | 1 => [[38, 38]]
  | 2 => [[60], [60, 61], [61, 61], [33, 61]]
  | 3 => [[43], [45]]
  | _ => [[42], [47], [37]]
/-- The signs of a level, one behind the other. -/
def chainR (lv : Nat) (sub : PM Int) (ln : Int) : Nat → Int → PM Int
  | 0, _ => fun _ => none
  | n + 1, left => do
    let b ← ask (isS T (signsL lv))
    if b then (do
      let k ← ask (tokA T)
      mod (nextS T)
      let right ← sub
      let x ← nodeM ⟨9, ln, 0, k.x, []⟩ [left, right]
      if lv = 2 then pure x else chainR lv sub ln n x)
    else pure left
/-- Level 5: a factor; below: what signs join. The first number: how deep at most. -/
def exM : Nat → Nat → PM Int
  | 0, _ => fun _ => none
  | n + 1, lv =>
    if lv = 5 then factorM src T (exM n 5) (exM n 0)
    else do
      let ln ← ask (lineS src T)
      let x ← exM n (lv + 1)
      chainR T lv (exM n (lv + 1)) ln n x
end
end Go.Proofs.YtgelggdgbmldiaaDoor

namespace Go.Proofs.YtgelggdgbmldiaaDoor
set_option linter.unusedVariables false
set_option linter.unusedSimpArgs false
structure Fnc where
  s : List UInt8
  ln : Int
  ps : List (List UInt8 × Int)
  ret : Int
  body : Int
def typeN (x : List UInt8) : Int := if x = [105, 110, 116] then 1 else if x = [98, 111, 111, 108] then 2 else if x = [116, 101, 120, 116] then 3 else if x = [108, 105, 115, 116] then 4 else 0
section
variable (src : List UInt8) (T : List Tok)
def commaR (ex : PM Int) : Nat → List Int → PM (List Int)
  | 0, _ => fun _ => none
  | n + 1, l => do
    let b ← ask (isS T [[44]])
    if b then (do
      mod (nextS T)
      let x ← ex
      commaR ex n (l ++ [x]))
    else pure l
def argsM (N : Nat) (ex : PM Int) : PM (List Int) := do
  let b ← ask (isS T [[41]])
  if b then pure [] else do
    let x ← ex
    commaR T ex N [x]
def callM (N : Nat) (ex : PM Int) : PM Int := do
  let ln ← ask (lineS src T)
  let x ← ask (nameX T)
  mod (nameS T)
  mod (wantS T [40])
  let l ← argsM T N ex
  mod (wantS T [41])
  nodeM ⟨21, ln, 0, x, []⟩ l
def rightM (N : Nat) (ex : PM Int) : PM Int := do
  let ln ← ask (lineS src T)
  let b ← ask (isS T [[105, 110, 112, 117, 116]])
  if b then (do
    mod (nextS T)
    nodeM ⟨19, ln, 0, [], []⟩ [])
  else do
    let b ← ask (isS T [[110, 101, 119]])
    if b then (do
      mod (nextS T)
      mod (wantS T [40])
      let x ← ex
      mod (wantS T [41])
      nodeM ⟨20, ln, 0, [], []⟩ [x])
    else do
      let b ← ask (callsS T)
      if b then callM src T N ex else ex
def endedM (n : Nd) (l : List Int) : PM Int := do
  mod (wantS T [59])
  nodeM n l
def changeM (N : Nat) (ex : PM Int) (ln : Int) : PM Int := do
  let x ← ask (nameX T)
  mod (nameS T)
  let b ← ask (isS T [[91]])
  if b then (do
    openM T [91]
    let y ← ex
    shutM T [93]
    mod (wantS T [61])
    let z ← ex
    endedM T ⟨12, ln, 0, x, []⟩ [y, z])
  else do
    mod (wantS T [61])
    let y ← rightM src T N ex
    endedM T ⟨11, ln, 0, x, []⟩ [y]
def choiceM (ex bl : PM Int) (ln : Int) : PM Int := do
  mod (nextS T)
  let x ← ex
  let y ← bl
  let b ← ask (isS T [[101, 108, 115, 101]])
  if b then (do
    mod (nextS T)
    let z ← bl
    nodeM ⟨15, ln, 0, [], []⟩ [x, y, z])
  else nodeM ⟨15, ln, 0, [], []⟩ [x, y]
def statementM (N : Nat) (ex bl : PM Int) : PM Int := do
  let ln ← ask (lineS src T)
  let b ← ask (isS T [[105, 102]])
  if b then choiceM T ex bl ln
  else do
    let b ← ask (isS T [[119, 104, 105, 108, 101]])
    if b then (do
      mod (nextS T)
      let x ← ex
      let y ← bl
      nodeM ⟨16, ln, 0, [], []⟩ [x, y])
    else do
      let b ← ask (callsS T)
      if b then (do
        let x ← callM src T N ex
        endedM T ⟨13, ln, 0, [], []⟩ [x])
      else do
        let b ← ask (isS T [[112, 114, 105, 110, 116]])
        if b then (do
          mod (nextS T)
          let x ← ex
          endedM T ⟨14, ln, 0, [], []⟩ [x])
        else do
          let b ← ask (isS T [[114, 101, 116, 117, 114, 110]])
          if b then (do
            mod (nextS T)
            let b ← ask (isS T [[59]])
            if b then endedM T ⟨17, ln, 0, [], []⟩ [] else do
              let x ← ex
              endedM T ⟨17, ln, 0, [], []⟩ [x])
          else do
            let b ← ask (isS T [[108, 101, 116]])
            if b then (do
              mod (nextS T)
              let x ← ask (nameX T)
              mod (nameS T)
              mod (wantS T [61])
              let y ← rightM src T N ex
              endedM T ⟨10, ln, 0, x, []⟩ [y])
            else changeM src T N ex ln
def stmsR (st : PM Int) : Nat → List Int → PM (List Int)
  | 0, _ => fun _ => none
  | n + 1, l => do
    let b ← ask (fun s => decide (s.er = 0) && !(isS T [[125]] s))
    if b then (do
      let x ← st
      stmsR st n (l ++ [x]))
    else pure l
def blockM (N : Nat) (st : PM Int) : PM Int := do
  let ln ← ask (lineS src T)
  openM T [123]
  let l ← stmsR T st N []
  shutM T [125]
  nodeM ⟨18, ln, 0, [], []⟩ l
/-- A statement, so deep at most. -/
def stM (N : Nat) : Nat → PM Int
  | 0 => fun _ => none
  | n + 1 => statementM src T N (exM src T N 0) (blockM src T N (stM N n))
def kindM : PM Int := do
  let b ← ask (isS T [[105, 110, 116], [98, 111, 111, 108], [116, 101, 120, 116], [108, 105, 115, 116]])
  if b then (do
    let k ← ask (tokA T)
    mod (nextS T)
    pure (typeN k.x))
  else do
    mod (failS T 20)
    pure 0
def paramM : PM (List UInt8 × Int) := do
  let x ← ask (nameX T)
  mod (nameS T)
  let t ← kindM T
  pure (x, t)
def paramsR : Nat → List (List UInt8 × Int) → PM (List (List UInt8 × Int))
  | 0, _ => fun _ => none
  | n + 1, l => do
    let b ← ask (isS T [[44]])
    if b then (do
      mod (nextS T)
      let x ← paramM T
      paramsR n (l ++ [x]))
    else pure l
def paramsM (N : Nat) : PM (List (List UInt8 × Int)) := do
  let b ← ask (isS T [[41]])
  if b then pure [] else do
    let x ← paramM T
    paramsR T N [x]
def retM : PM Int := do
  let b ← ask (isS T [[123]])
  if b then pure 0 else kindM T
def functionM (N : Nat) : PM Fnc := do
  let ln ← ask (lineS src T)
  mod (wantS T [102, 110])
  let x ← ask (nameX T)
  mod (nameS T)
  mod (wantS T [40])
  let ps ← paramsM T N
  mod (wantS T [41])
  let r ← retM T
  let y ← blockM src T N (stM src T N N)
  pure ⟨x, ln, ps, r, y⟩
def fnsR (N : Nat) : Nat → List Fnc → PM (List Fnc)
  | 0, _ => fun _ => none
  | n + 1, l => do
    let b ← ask (fun s => decide (s.er = 0) && !(decide ((tokA T s).k = 0)))
    if b then (do
      let x ← functionM src T N
      fnsR N n (l ++ [x]))
    else pure l
end
/-- What All tells: a place and an error, or a tree. -/
def treeP (fs : List Fnc) (s : PS) : (Nat × Nat) ⊕ (List Nd × List Fnc) :=
  if s.er = 0 then (if (decide (300 < s.nd.length) || decide (6 < fs.length)) || fs.any (fun f => decide (3 < f.ps.length)) then .inl (0, 4) else .inr (s.nd, fs)) else .inl (s.pl, s.er)
def allP (N : Nat) (src : List UInt8) : Option ((Nat × Nat) ⊕ (List Nd × List Fnc)) :=
  if 600 < src.length then some (.inl (0, 4))
  else match (lexL src 0).2 with
    | some pe => some (.inl pe)
    | none => (fnsR src (lexL src 0).1 N N [] ⟨0, 0, 0, [], 0⟩).map fun p => treeP p.1 p.2
end Go.Proofs.YtgelggdgbmldiaaDoor
