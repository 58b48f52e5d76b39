/-
  Layer 22: lines, as data. Written by an AI agent.
-/
import Derived.Lib.ItoaNum
import Derived.Lib.ItoaMem
import Derived.Lib.ItoaLen
import Derived.Lib.AtoiAll
import Derived.Lib.SplitLaws
namespace Go.Proofs.YtoombjbpblighabDoor
open Go Go.Lib
set_option linter.unusedVariables false
set_option linter.unusedSimpArgs false

def valD (l : List UInt8) : Nat := l.foldl (fun a c => a * 10 + (c.toNat - 48)) 0

theorem valD_snoc (l : List UInt8) (c : UInt8) : valD (l ++ [c]) = valD l * 10 + (c.toNat - 48) := by
  unfold valD
  rw [List.foldl_append]
  rfl

theorem digit_toNat (k : Nat) (h : k < 10) : (UInt8.ofNat (48 + k)).toNat = 48 + k := by
  rw [UInt8.toNat_ofNat']
  exact Nat.mod_eq_of_lt (by omega)

theorem val_dec (u : Nat) : valD (decDigits u) = u := by
  induction u using Nat.strongRecOn with
  | _ u ih =>
    by_cases h : u < 10
    · rw [decDigits, dif_pos h]
      show 0 * 10 + ((UInt8.ofNat (48 + u)).toNat - 48) = u
      rw [digit_toNat u h]
      omega
    · rw [decDigits, dif_neg h, valD_snoc, ih (u / 10) (by omega), digit_toNat _ (by omega)]
      omega

theorem dec_big (u : Nat) : ∀ c ∈ decDigits u, 48 ≤ c.toNat := by
  induction u using Nat.strongRecOn with
  | _ u ih =>
    intro c hc
    by_cases h : u < 10
    · rw [decDigits, dif_pos h] at hc
      rw [List.mem_singleton.1 hc, digit_toNat u h]
      omega
    · rw [decDigits, dif_neg h] at hc
      rcases List.mem_append.1 hc with h1 | h1
      · exact ih (u / 10) (by omega) c h1
      · rw [List.mem_singleton.1 h1, digit_toNat _ (by omega)]
        omega

theorem dec_inj {u v : Nat} (h : decDigits u = decDigits v) : u = v := by
  rw [← val_dec u, ← val_dec v, h]

theorem dec_no_minus (u : Nat) (l : List UInt8) : ¬ decDigits u = 45 :: l := by
  intro h
  have := dec_big u 45 (by rw [h]; simp)
  exact absurd this (by decide)

theorem itoa_inj {a b : Int} (h : itoa a = itoa b) : a = b := by
  unfold itoa at h
  by_cases ha : a < 0 <;> by_cases hb : b < 0
  · rw [if_pos ha, if_pos hb] at h
    have := dec_inj (List.cons.inj h).2
    omega
  · rw [if_pos ha, if_neg hb] at h
    exact absurd h.symm (dec_no_minus _ _)
  · rw [if_neg ha, if_pos hb] at h
    exact absurd h (dec_no_minus _ _)
  · rw [if_neg ha, if_neg hb] at h
    have := dec_inj h
    omega


theorem itoa_no (n : Int) : (32 : UInt8) ∉ itoa n := by
  intro h
  unfold itoa at h
  split at h
  · rcases List.mem_cons.1 h with h | h
    · revert h; decide
    · have := dec_big _ _ h
      revert this; decide
  · have := dec_big _ _ h
    revert this; decide

/-- A value. -/
structure V3 where
  ty : Int
  n : Int
  s : List UInt8
/-- What is asked for. -/
structure Cm where
  verb : List UInt8
  a : List UInt8
  b : List UInt8
  n : Int
  v : V3
def V3.eqB (x y : V3) : Bool := (x.ty == y.ty) && ((x.n == y.n) && (x.s == y.s))
def Cm.eqB (x y : Cm) : Bool := (x.verb == y.verb) && ((x.a == y.a) && ((x.b == y.b) && ((x.n == y.n) && x.v.eqB y.v)))
theorem V3.eqB_iff (x y : V3) : x.eqB y = true ↔ x = y := by
  obtain ⟨a, b, c⟩ := x
  obtain ⟨d, e, f⟩ := y
  simp [V3.eqB]
theorem Cm.eqB_iff (x y : Cm) : x.eqB y = true ↔ x = y := by
  obtain ⟨a, b, c, d, e⟩ := x
  obtain ⟨a', b', c', d', e'⟩ := y
  simp [Cm.eqB, V3.eqB_iff]
def onlyN (l : List UInt8) : Bool := l.all fun c => decide (33 ≤ c.toNat) && decide (c.toNat ≤ 126)
def nameN (l : List UInt8) : Bool := decide (1 ≤ l.length) && (decide (l.length ≤ 20) && onlyN l)
def mayV (v : V3) : Bool :=
  if v.ty = 3 then decide (v.n = 0) && decide (v.s.length ≤ 40)
  else if v.ty = 2 then decide (v.n ≤ 1) && (decide (0 ≤ v.n) && decide (v.s = []))
  else if v.ty = 4 then decide (0 ≤ v.n) && decide (v.s = [])
  else if v.ty = 1 then decide (v.s = []) else false
def speakN (v : V3) : Bool := mayV v && (decide (v.ty ≠ 4) && (onlyN v.s && !(v.s.contains 34)))
def trueB : List UInt8 := [116, 114, 117, 101]
def falseB : List UInt8 := [102, 97, 108, 115, 101]
def wordN (v : V3) : List UInt8 := if v.ty = 1 then itoa v.n else if v.ty = 2 then (if v.n = 1 then trueB else falseB) else if v.ty = 3 then v.s else if v.ty = 4 then [108, 105, 115, 116] else []
def quotedN (v : V3) : List UInt8 := if v.ty = 3 then 34 :: (v.s ++ [34]) else wordN v
def numN (l : List UInt8) : Int := match atoiAll l with | .ok v => v | _ => 0
def heardN (l : List UInt8) : V3 :=
  if l = trueB then ⟨2, 1, []⟩ else if l = falseB then ⟨2, 0, []⟩
  else if 2 ≤ l.length ∧ l.getD 0 0 = 34 ∧ l.getD (l.length - 1) 0 = 34 then ⟨3, 0, (l.drop 1).take (l.length - 2)⟩ else ⟨1, numN l, []⟩
def kindsN (l : List UInt8) : Option (List Nat) := if l = [115, 116, 101, 112] then some [] else if l = [98, 97, 99, 107] then some [] else if l = [115, 104, 111, 119] then some [] else if l = [108, 105, 115, 116] then some [] else if l = [103, 111] then some [2] else if l = [105, 110, 112, 117, 116] then some [2] else if l = [108, 105, 110, 101] then some [2] else if l = [115, 119, 105, 116, 99, 104] then some [0] else if l = [100, 105, 102, 102] then some [0] else if l = [102, 105, 114, 115, 116] then some [0] else if l = [112, 114, 117, 110, 101] then some [0] else if l = [119, 97, 116, 99, 104] then some [0] else if l = [114, 101, 110, 97, 109, 101] then some [0, 1] else if l = [114, 101, 98, 97, 115, 101] then some [0, 1] else if l = [116, 97, 107, 101] then some [0, 2] else if l = [115, 101, 116] then some [0, 3] else if l = [102, 111, 114, 107] then some [0, 1, 3] else none
def sayN (k : Nat) (c : Cm) : List UInt8 × Bool := match k with
  | 0 => (c.a, nameN c.a)
  | 1 => (c.b, nameN c.b)
  | 2 => (itoa c.n, true)
  | _ => (quotedN c.v, speakN c.v)
def hearN (k : Nat) (w : List UInt8) (c : Cm) : Cm := match k with
  | 0 => { c with a := w }
  | 1 => { c with b := w }
  | 2 => { c with n := numN w }
  | _ => { c with v := heardN w }
def lineGo : List Nat → Cm → Cm → List UInt8 → Option (Cm × List UInt8)
  | [], c, again, line => some (again, line)
  | k :: ks, c, again, line => if (sayN k c).2 = true then lineGo ks c (hearN k (sayN k c).1 again) (line ++ 32 :: (sayN k c).1) else none
def zeroC (l : List UInt8) : Cm := ⟨l, [], [], 0, ⟨0, 0, []⟩⟩
def lineN (c : Cm) : Option (List UInt8) := match kindsN c.verb with
  | none => none
  | some ks => match lineGo ks c (zeroC c.verb) c.verb with
    | none => none
    | some r => if r.1.eqB c && decide (r.2.length ≤ 80) then some r.2 else none
def hearAll : List Nat → List (List UInt8) → Cm → Cm
  | k :: ks, w :: ws, c => hearAll ks ws (hearN k w c)
  | _, _, c => c
/-- The words between blanks. -/
def splitSp : List UInt8 → List (List UInt8)
  | [] => [[]]
  | c :: r => if c = 32 then [] :: splitSp r else match splitSp r with | w :: ws => (c :: w) :: ws | [] => [[c]]
def readN (l : List UInt8) : Option Cm := match splitSp l with
  | [] => none
  | v :: ws => match kindsN v with
    | none => none
    | some ks => if ws.length = ks.length then (if lineN (hearAll ks ws (zeroC v)) = some l then some (hearAll ks ws (zeroC v)) else none) else none

theorem splitSp_ne (l : List UInt8) : splitSp l ≠ [] := by
  cases l with
  | nil => simp [splitSp]
  | cons c r =>
    unfold splitSp
    split
    · simp
    · split <;> simp
/-- A word without blanks, ahead of a blank. -/
theorem splitSp_word (w : List UInt8) (h : (32 : UInt8) ∉ w) (r : List UInt8) : splitSp (w ++ 32 :: r) = w :: splitSp r := by
  induction w with
  | nil => simp [splitSp]
  | cons c w ih =>
    have hc : ¬ c = 32 := fun e => h (by simp [e])
    rw [List.cons_append, splitSp, if_neg hc, ih (fun e => h (by simp [e]))]
theorem splitSp_last (w : List UInt8) (h : (32 : UInt8) ∉ w) : splitSp w = [w] := by
  induction w with
  | nil => rfl
  | cons c w ih =>
    have hc : ¬ c = 32 := fun e => h (by simp [e])
    rw [splitSp, if_neg hc, ih (fun e => h (by simp [e]))]
/-- Words, each behind a blank. -/
def tailB (ws : List (List UInt8)) : List UInt8 := ws.flatMap fun w => 32 :: w
theorem splitSp_all (ws : List (List UInt8)) (h : ∀ w ∈ ws, (32 : UInt8) ∉ w) (v : List UInt8) (hv : (32 : UInt8) ∉ v) : splitSp (v ++ tailB ws) = v :: ws := by
  induction ws generalizing v with
  | nil => simpa [tailB] using splitSp_last v hv
  | cons w ws ih =>
    have e : v ++ tailB (w :: ws) = v ++ 32 :: (w ++ tailB ws) := by simp [tailB]
    rw [e, splitSp_word v hv, ih (fun x hx => h x (by simp [hx])) w (h w (by simp))]
theorem only_no {l : List UInt8} (h : onlyN l = true) : (32 : UInt8) ∉ l := fun e => by
  unfold onlyN at h
  have := List.all_eq_true.1 h 32 e
  simp at this
theorem name_no {l : List UInt8} (h : nameN l = true) : (32 : UInt8) ∉ l := by
  unfold nameN at h
  simp only [Bool.and_eq_true] at h
  exact only_no h.2.2
theorem quoted_no {v : V3} (h : speakN v = true) : (32 : UInt8) ∉ quotedN v := by
  unfold speakN at h
  simp only [Bool.and_eq_true, decide_eq_true_eq] at h
  obtain ⟨h1, h2, h3, h4⟩ := h
  unfold quotedN wordN
  split
  · have := only_no h3
    simp [this]
  · split
    · exact itoa_no _
    · split
      · split <;> decide
      · rename_i g3 g1 g2
        first
        | (split
           · exact only_no h3
           · split <;> simp)
        | (split <;> simp)
        | simp
theorem say_no (k : Nat) (c : Cm) (h : (sayN k c).2 = true) : (32 : UInt8) ∉ (sayN k c).1 := by
  match k with
  | 0 => exact name_no h
  | 1 => exact name_no h
  | 2 => exact itoa_no _
  | k + 3 => exact quoted_no h
theorem kinds_cases {l : List UInt8} {ks : List Nat} (h : kindsN l = some ks) : l = [115, 116, 101, 112] ∨ l = [98, 97, 99, 107] ∨ l = [115, 104, 111, 119] ∨ l = [108, 105, 115, 116] ∨ l = [103, 111] ∨ l = [105, 110, 112, 117, 116] ∨ l = [108, 105, 110, 101] ∨ l = [115, 119, 105, 116, 99, 104] ∨ l = [100, 105, 102, 102] ∨ l = [102, 105, 114, 115, 116] ∨ l = [112, 114, 117, 110, 101] ∨ l = [119, 97, 116, 99, 104] ∨ l = [114, 101, 110, 97, 109, 101] ∨ l = [114, 101, 98, 97, 115, 101] ∨ l = [116, 97, 107, 101] ∨ l = [115, 101, 116] ∨ l = [102, 111, 114, 107] := by
  by_cases hstep : l = [115, 116, 101, 112]
  · simp [hstep]
  by_cases hback : l = [98, 97, 99, 107]
  · simp [hback]
  by_cases hshow : l = [115, 104, 111, 119]
  · simp [hshow]
  by_cases hlist : l = [108, 105, 115, 116]
  · simp [hlist]
  by_cases hgo : l = [103, 111]
  · simp [hgo]
  by_cases hinput : l = [105, 110, 112, 117, 116]
  · simp [hinput]
  by_cases hline : l = [108, 105, 110, 101]
  · simp [hline]
  by_cases hswitch : l = [115, 119, 105, 116, 99, 104]
  · simp [hswitch]
  by_cases hdiff : l = [100, 105, 102, 102]
  · simp [hdiff]
  by_cases hfirst : l = [102, 105, 114, 115, 116]
  · simp [hfirst]
  by_cases hprune : l = [112, 114, 117, 110, 101]
  · simp [hprune]
  by_cases hwatch : l = [119, 97, 116, 99, 104]
  · simp [hwatch]
  by_cases hrename : l = [114, 101, 110, 97, 109, 101]
  · simp [hrename]
  by_cases hrebase : l = [114, 101, 98, 97, 115, 101]
  · simp [hrebase]
  by_cases htake : l = [116, 97, 107, 101]
  · simp [htake]
  by_cases hset : l = [115, 101, 116]
  · simp [hset]
  by_cases hfork : l = [102, 111, 114, 107]
  · simp [hfork]
  unfold kindsN at h
  rw [if_neg hstep, if_neg hback, if_neg hshow, if_neg hlist, if_neg hgo, if_neg hinput, if_neg hline, if_neg hswitch, if_neg hdiff, if_neg hfirst, if_neg hprune, if_neg hwatch, if_neg hrename, if_neg hrebase, if_neg htake, if_neg hset, if_neg hfork] at h
  cases h
theorem kinds_no {l : List UInt8} {ks : List Nat} (h : kindsN l = some ks) : (32 : UInt8) ∉ l := by
  rcases kinds_cases h with rfl | rfl | rfl | rfl | rfl | rfl | rfl | rfl | rfl | rfl | rfl | rfl | rfl | rfl | rfl | rfl | rfl <;> decide
/-- What a line is made of. -/
theorem lineGo_some (ks : List Nat) (c : Cm) : ∀ (again : Cm) (line : List UInt8) {r : Cm × List UInt8}, lineGo ks c again line = some r → (∀ k ∈ ks, (sayN k c).2 = true) ∧ r.2 = line ++ tailB (ks.map fun k => (sayN k c).1) ∧ r.1 = hearAll ks (ks.map fun k => (sayN k c).1) again := by
  induction ks with
  | nil => intro again line r h; cases h; exact ⟨by simp, by simp [tailB], rfl⟩
  | cons k ks ih =>
    intro again line r h
    unfold lineGo at h
    split at h
    · rename_i hk
      obtain ⟨h1, h2, h3⟩ := ih _ _ h
      refine ⟨fun x hx => ?_, ?_, h3⟩
      · rcases List.mem_cons.1 hx with rfl | hx
        · exact hk
        · exact h1 x hx
      · rw [h2]
        simp [tailB]
    · cases h
/-- What is a line is read as it was. -/
theorem read_line {c : Cm} {l : List UInt8} (h : lineN c = some l) : readN l = some c := by
  have h0 := h
  unfold lineN at h
  cases hk : kindsN c.verb with
  | none => rw [hk] at h; cases h
  | some ks =>
    rw [hk] at h
    simp only at h
    cases hg : lineGo ks c (zeroC c.verb) c.verb with
    | none => rw [hg] at h; cases h
    | some r =>
      rw [hg] at h
      simp only at h
      split at h
      · rename_i hb
        simp only [Bool.and_eq_true] at hb
        have he := (Cm.eqB_iff _ _).1 hb.1
        obtain ⟨h1, h2, h3⟩ := lineGo_some ks c _ _ hg
        obtain rfl : r.2 = l := Option.some.inj h
        have hs := splitSp_all (ks.map fun k => (sayN k c).1) (fun w hw => by
          obtain ⟨k, hk, rfl⟩ := List.mem_map.1 hw
          exact say_no k c (h1 k hk)) c.verb (kinds_no hk)
        rw [← h2] at hs
        unfold readN
        rw [hs]
        simp only
        rw [hk]
        simp only [List.length_map, if_true]
        rw [← h3, he, if_pos h0]
      · cases h
theorem line_inj {c d : Cm} {l : List UInt8} (h : lineN c = some l) (g : lineN d = some l) : c = d := by
  have h1 := read_line h
  rw [read_line g] at h1
  exact (Option.some.inj h1).symm
end Go.Proofs.YtoombjbpblighabDoor
