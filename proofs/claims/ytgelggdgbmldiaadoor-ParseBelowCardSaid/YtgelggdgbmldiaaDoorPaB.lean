/-
  Layer 2: what the program's parser does with statements and functions, as data. Written by an AI agent.
-/
import Derived.Test.YtgelggdgbmldiaaDoorPaA
namespace Go.Proofs.YtgelggdgbmldiaaDoor
set_option linter.unusedVariables false
set_option linter.unusedSimpArgs false

structure Fnc where
  s : List UInt8
  ln : Int
  ps : List (List UInt8 × Int)
  ret : Int
  body : Int

def typeN (x : List UInt8) : Int := if x = [105, 110, 116] then 1 else if x = [98, 111, 111, 108] then 2 else if x = [116, 101, 120, 116] then 3 else if x = [108, 105, 115, 116] then 4 else 0

section
variable (src : List UInt8) (T : List Tok)

def commaR (ex : PM Int) : Nat → List Int → PM (List Int)
  | 0, _ => fun _ => none
  | n + 1, l => do
    let b ← ask (isS T [[44]])
    if b then (do
      mod (nextS T)
      let x ← ex
      commaR ex n (l ++ [x]))
    else pure l
def argsM (N : Nat) (ex : PM Int) : PM (List Int) := do
  let b ← ask (isS T [[41]])
  if b then pure [] else do
    let x ← ex
    commaR T ex N [x]
def callM (N : Nat) (ex : PM Int) : PM Int := do
  let ln ← ask (lineS src T)
  let x ← ask (nameX T)
  mod (nameS T)
  mod (wantS T [40])
  let l ← argsM T N ex
  mod (wantS T [41])
  nodeM ⟨21, ln, 0, x, []⟩ l

def rightM (N : Nat) (ex : PM Int) : PM Int := do
  let ln ← ask (lineS src T)
  let b ← ask (isS T [[105, 110, 112, 117, 116]])
  if b then (do
    mod (nextS T)
    nodeM ⟨19, ln, 0, [], []⟩ [])
  else do
    let b ← ask (isS T [[110, 101, 119]])
    if b then (do
      mod (nextS T)
      mod (wantS T [40])
      let x ← ex
      mod (wantS T [41])
      nodeM ⟨20, ln, 0, [], []⟩ [x])
    else do
      let b ← ask (callsS T)
      if b then callM src T N ex else ex

def endedM (n : Nd) (l : List Int) : PM Int := do
  mod (wantS T [59])
  nodeM n l

def changeM (N : Nat) (ex : PM Int) (ln : Int) : PM Int := do
  let x ← ask (nameX T)
  mod (nameS T)
  let b ← ask (isS T [[91]])
  if b then (do
    openM T [91]
    let y ← ex
    shutM T [93]
    mod (wantS T [61])
    let z ← ex
    endedM T ⟨12, ln, 0, x, []⟩ [y, z])
  else do
    mod (wantS T [61])
    let y ← rightM src T N ex
    endedM T ⟨11, ln, 0, x, []⟩ [y]

def choiceM (ex bl : PM Int) (ln : Int) : PM Int := do
  mod (nextS T)
  let x ← ex
  let y ← bl
  let b ← ask (isS T [[101, 108, 115, 101]])
  if b then (do
    mod (nextS T)
    let z ← bl
    nodeM ⟨15, ln, 0, [], []⟩ [x, y, z])
  else nodeM ⟨15, ln, 0, [], []⟩ [x, y]

def statementM (N : Nat) (ex bl : PM Int) : PM Int := do
  let ln ← ask (lineS src T)
  let b ← ask (isS T [[105, 102]])
  if b then choiceM T ex bl ln
  else do
    let b ← ask (isS T [[119, 104, 105, 108, 101]])
    if b then (do
      mod (nextS T)
      let x ← ex
      let y ← bl
      nodeM ⟨16, ln, 0, [], []⟩ [x, y])
    else do
      let b ← ask (callsS T)
      if b then (do
        let x ← callM src T N ex
        endedM T ⟨13, ln, 0, [], []⟩ [x])
      else do
        let b ← ask (isS T [[112, 114, 105, 110, 116]])
        if b then (do
          mod (nextS T)
          let x ← ex
          endedM T ⟨14, ln, 0, [], []⟩ [x])
        else do
          let b ← ask (isS T [[114, 101, 116, 117, 114, 110]])
          if b then (do
            mod (nextS T)
            let b ← ask (isS T [[59]])
            if b then endedM T ⟨17, ln, 0, [], []⟩ [] else do
              let x ← ex
              endedM T ⟨17, ln, 0, [], []⟩ [x])
          else do
            let b ← ask (isS T [[108, 101, 116]])
            if b then (do
              mod (nextS T)
              let x ← ask (nameX T)
              mod (nameS T)
              mod (wantS T [61])
              let y ← rightM src T N ex
              endedM T ⟨10, ln, 0, x, []⟩ [y])
            else changeM src T N ex ln

def stmsR (st : PM Int) : Nat → List Int → PM (List Int)
  | 0, _ => fun _ => none
  | n + 1, l => do
    let b ← ask (fun s => decide (s.er = 0) && !(isS T [[125]] s))
    if b then (do
      let x ← st
      stmsR st n (l ++ [x]))
    else pure l
def blockM (N : Nat) (st : PM Int) : PM Int := do
  let ln ← ask (lineS src T)
  openM T [123]
  let l ← stmsR T st N []
  shutM T [125]
  nodeM ⟨18, ln, 0, [], []⟩ l

/-- A statement, so deep at most. -/
def stM (N : Nat) : Nat → PM Int
  | 0 => fun _ => none
  | n + 1 => statementM src T N (exM src T N 0) (blockM src T N (stM N n))

def kindM : PM Int := do
  let b ← ask (isS T [[105, 110, 116], [98, 111, 111, 108], [116, 101, 120, 116], [108, 105, 115, 116]])
  if b then (do
    let k ← ask (tokA T)
    mod (nextS T)
    pure (typeN k.x))
  else do
    mod (failS T 20)
    pure 0
def paramM : PM (List UInt8 × Int) := do
  let x ← ask (nameX T)
  mod (nameS T)
  let t ← kindM T
  pure (x, t)
def paramsR : Nat → List (List UInt8 × Int) → PM (List (List UInt8 × Int))
  | 0, _ => fun _ => none
  | n + 1, l => do
    let b ← ask (isS T [[44]])
    if b then (do
      mod (nextS T)
      let x ← paramM T
      paramsR n (l ++ [x]))
    else pure l
def paramsM (N : Nat) : PM (List (List UInt8 × Int)) := do
  let b ← ask (isS T [[41]])
  if b then pure [] else do
    let x ← paramM T
    paramsR T N [x]
def retM : PM Int := do
  let b ← ask (isS T [[123]])
  if b then pure 0 else kindM T
def functionM (N : Nat) : PM Fnc := do
  let ln ← ask (lineS src T)
  mod (wantS T [102, 110])
  let x ← ask (nameX T)
  mod (nameS T)
  mod (wantS T [40])
  let ps ← paramsM T N
  mod (wantS T [41])
  let r ← retM T
  let y ← blockM src T N (stM src T N N)
  pure ⟨x, ln, ps, r, y⟩
def fnsR (N : Nat) : Nat → List Fnc → PM (List Fnc)
  | 0, _ => fun _ => none
  | n + 1, l => do
    let b ← ask (fun s => decide (s.er = 0) && !(decide ((tokA T s).k = 0)))
    if b then (do
      let x ← functionM src T N
      fnsR N n (l ++ [x]))
    else pure l
end

/-- What All tells: a place and an error, or a tree. -/
def treeP (fs : List Fnc) (s : PS) : (Nat × Nat) ⊕ (List Nd × List Fnc) :=
  if s.er = 0 then (if (decide (300 < s.nd.length) || decide (6 < fs.length)) || fs.any (fun f => decide (3 < f.ps.length)) then .inl (0, 4) else .inr (s.nd, fs)) else .inl (s.pl, s.er)
def allP (N : Nat) (src : List UInt8) : Option ((Nat × Nat) ⊕ (List Nd × List Fnc)) :=
  if 600 < src.length then some (.inl (0, 4))
  else match (lexL src 0).2 with
    | some pe => some (.inl pe)
    | none => (fnsR src (lexL src 0).1 N N [] ⟨0, 0, 0, [], 0⟩).map fun p => treeP p.1 p.2

end Go.Proofs.YtgelggdgbmldiaaDoor
