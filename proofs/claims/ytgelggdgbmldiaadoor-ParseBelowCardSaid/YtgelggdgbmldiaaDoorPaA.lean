/-
  Layer 2: what the program's parser does, as data, step by step. Written by an AI agent.
-/
import Derived.Test.YtgelggdgbmldiaaDoorLxA
import Derived.Test.YtgelggdgbmldiaaDoorLxYb
namespace Go.Proofs.YtgelggdgbmldiaaDoor
set_option linter.unusedVariables false
set_option linter.unusedSimpArgs false

structure Nd where
  k : Int
  ln : Int
  n : Int
  s : List UInt8
  l : List Int

structure PS where
  i : Nat
  pl : Nat
  er : Nat
  nd : List Nd
  dp : Int

abbrev PM := StateT PS Option

theorem bind_out {α β : Type} {m : PM α} {f : α → PM β} {s : PS} {r : β × PS} (h : (m >>= f) s = some r) : ∃ a s1, m s = some (a, s1) ∧ f a s1 = some r := by
  have h1 : (m s).bind (fun p => f p.1 p.2) = some r := h
  cases hm : m s with
  | none => rw [hm] at h1; cases h1
  | some p => rw [hm] at h1; exact ⟨p.1, p.2, rfl, h1⟩
theorem pure_out {α : Type} {a : α} {s : PS} {r : α × PS} (h : (pure a : PM α) s = some r) : r = (a, s) := (Option.some.inj h).symm
theorem bind_in {α β : Type} {m : PM α} {f : α → PM β} {s s1 : PS} {a : α} (h : m s = some (a, s1)) : (m >>= f) s = f a s1 := by
  show (m s).bind (fun p => f p.1 p.2) = _
  rw [h]
  rfl

section
variable (src : List UInt8) (T : List Tok)

def tokA (s : PS) : Tok := T.getD s.i default
def isS (ts : List (List UInt8)) (s : PS) : Bool := (decide ((tokA T s).k = 5) || decide ((tokA T s).k = 4)) && ts.contains (tokA T s).x
def callsS (s : PS) : Bool := decide ((tokA T s).k = 3) && (decide ((T.getD (s.i + 1) default).k = 5) && decide ((T.getD (s.i + 1) default).x = [40]))
def lineS (s : PS) : Int := (lineL src ((tokA T s).p : Int) : Nat)
def nextS (s : PS) : PS := if s.i < T.length - 1 then { s with i := s.i + 1 } else s
def failS (e : Nat) (s : PS) : PS := if s.er = 0 then { s with pl := (tokA T s).p, er := e, i := T.length - 1 } else s
def wantS (x : List UInt8) (s : PS) : PS := if isS T [x] s then nextS T s else failS T 20 s
def nameS (s : PS) : PS := if (tokA T s).k = 3 then nextS T s else failS T 20 s
def nameX (s : PS) : List UInt8 := if (tokA T s).k = 3 then (tokA T s).x else []

def mod (f : PS → PS) : PM Unit := fun s => some ((), f s)
def ask {α : Type} (f : PS → α) : PM α := fun s => some (f s, s)
def nodeM (n : Nd) (l : List Int) : PM Int := fun s => if s.nd.length < 100000 then some ((s.nd.length : Int), { s with nd := s.nd ++ [{ n with l := l }] }) else none
def deepS (d : Int) : PM Unit := fun s => if -1000000 < s.dp ∧ s.dp < 1000000 then some ((), { s with dp := s.dp + d }) else none
def openS (x : List UInt8) (s : PS) : PS := wantS T x (if isS T [x] s && decide (16 ≤ s.dp) then failS T 21 s else s)
def openM (x : List UInt8) : PM Unit := do mod (openS T x); deepS 1
def shutM (x : List UInt8) : PM Unit := do mod (wantS T x); deepS (-1)

/-- What is between two signs. -/
def insideM (ex : PM Int) (a b : List UInt8) : PM Int := do
  openM T a
  let x ← ex
  shutM T b
  pure x

def variableM (ex : PM Int) (ln : Int) : PM Int := do
  let x ← ask (nameX T)
  mod (nameS T)
  let b ← ask (isS T [[91]])
  if b then (do
    let y ← insideM T ex [91] [93]
    nodeM ⟨5, ln, 0, x, []⟩ [y])
  else nodeM ⟨4, ln, 0, x, []⟩ []

/-- The number of digits, as far as it goes. -/
def intV (x : List UInt8) : Int := if numV x ≤ 9223372036854775807 then (numV x : Int) else 9223372036854775807

def atomM (ex : PM Int) : PM Int := do
  let ln ← ask (lineS src T)
  let k ← ask (tokA T)
  if k.k = 1 then (do
    mod (nextS T)
    nodeM ⟨1, ln, intV k.x, [], []⟩ [])
  else if k.k = 2 then (do
    mod (nextS T)
    nodeM ⟨3, ln, 0, k.x, []⟩ [])
  else do
    let b ← ask (isS T [[116, 114, 117, 101], [102, 97, 108, 115, 101]])
    if b then (do
      mod (nextS T)
      nodeM ⟨2, ln, if k.x = [116, 114, 117, 101] then 1 else 0, [], []⟩ [])
    else do
      let b ← ask (isS T [[108, 101, 110]])
      if b then (do
        mod (nextS T)
        let x ← insideM T ex [40] [41]
        nodeM ⟨6, ln, 0, [], []⟩ [x])
      else do
        let b ← ask (isS T [[40]])
        if b then insideM T ex [40] [41]
        else variableM T ex ln

def factorM (fac ex : PM Int) : PM Int := do
  let ln ← ask (lineS src T)
  let k ← ask (tokA T)
  let b ← ask (isS T [[33]])
  if b then (do
    openM T k.x
    let x ← fac
    deepS (-1)
    nodeM ⟨8, ln, 0, [], []⟩ [x])
  else do
    let b ← ask (isS T [[45]])
    if b then (do
      openM T k.x
      let x ← fac
      deepS (-1)
      nodeM ⟨7, ln, 0, [], []⟩ [x])
    else atomM src T ex

def signsL : Nat → List (List UInt8)
  | 0 => [[124, 124]]
  | 1 => [[38, 38]]
  | 2 => [[60], [60, 61], [61, 61], [33, 61]]
  | 3 => [[43], [45]]
  | _ => [[42], [47], [37]]

/-- The signs of a level, one behind the other. -/
def chainR (lv : Nat) (sub : PM Int) (ln : Int) : Nat → Int → PM Int
  | 0, _ => fun _ => none
  | n + 1, left => do
    let b ← ask (isS T (signsL lv))
    if b then (do
      let k ← ask (tokA T)
      mod (nextS T)
      let right ← sub
      let x ← nodeM ⟨9, ln, 0, k.x, []⟩ [left, right]
      if lv = 2 then pure x else chainR lv sub ln n x)
    else pure left

/-- Level 5: a factor; below: what signs join. The first number: how deep at most. -/
def exM : Nat → Nat → PM Int
  | 0, _ => fun _ => none
  | n + 1, lv =>
    if lv = 5 then factorM src T (exM n 5) (exM n 0)
    else do
      let ln ← ask (lineS src T)
      let x ← exM n (lv + 1)
      chainR T lv (exM n (lv + 1)) ln n x

end
end Go.Proofs.YtgelggdgbmldiaaDoor
