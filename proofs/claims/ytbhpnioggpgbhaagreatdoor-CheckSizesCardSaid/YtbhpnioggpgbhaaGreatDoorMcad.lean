/-
 Layer 3: a source's tree as syntax: what stands where, and how deep (data). Written by an AI agent.
-/
import Derived.Test.YtbhpnioggpgbhaaGreatDoorMcac
namespace Go.Proofs.YtbhpnioggpgbhaaGreatDoor
set_option linter.unusedVariables false
set_option linter.unusedSimpArgs false
/-- A node but for its line. -/
def uz (n : Nd) : Nd := { n with ln := 0 }
/-- How firmly a sign holds; and an expression. -/
def lvS (s : List UInt8) : Nat := if s = [124, 124] then 0 else if s = [38, 38] then 1 else if s = [60] ∨ s = [60, 61] ∨ s = [61, 61] ∨ s = [33, 61] then 2 else if s = [43] ∨ s = [45] then 3 else 4
/-- How many nodes are below an expression's own. -/
def kE : Ex → Nat
 | .int _ => 0
 | .bool _ => 0
 | .text _ => 0
 | .var _ => 0
 | .index _ a => kE a + 1
 | .len a => kE a + 1
 | .neg a => kE a + 1
 | .not a => kE a + 1
 | .bin _ a b => kE a + 1 + (kE b + 1)
/-- The nodes of an expression, from a number on. -/
def flE : Ex → Nat → List Nd
 | .int n, _ => [⟨1, 0, n, [], []⟩]
 | .bool t, _ => [⟨2, 0, if t then 1 else 0, [], []⟩]
 | .text s, _ => [⟨3, 0, 0, s, []⟩]
 | .var s, _ => [⟨4, 0, 0, s, []⟩]
 | .index s a, b => flE a b ++ [⟨5, 0, 0, s, [((b + kE a : Nat) : Int)]⟩]
 | .len a, b => flE a b ++ [⟨6, 0, 0, [], [((b + kE a : Nat) : Int)]⟩]
 | .neg a, b => flE a b ++ [⟨7, 0, 0, [], [((b + kE a : Nat) : Int)]⟩]
 | .not a, b => flE a b ++ [⟨8, 0, 0, [], [((b + kE a : Nat) : Int)]⟩]
 | .bin s a c, b => flE a b ++ flE c (b + kE a + 1) ++ [⟨9, 0, 0, s, [((b + kE a : Nat) : Int), ((b + kE a + 1 + kE c : Nat) : Int)]⟩]
theorem flE_len : ∀ (e : Ex) (b : Nat), (flE e b).length = kE e + 1
 | .int _, _ => rfl
 | .bool _, _ => rfl
 | .text _, _ => rfl
 | .var _, _ => rfl
 | .index _ a, b => by show (flE a b ++ [_]).length = _; rw [List.length_append, flE_len a]; rfl
 | .len a, b => by show (flE a b ++ [_]).length = _; rw [List.length_append, flE_len a]; rfl
 | .neg a, b => by show (flE a b ++ [_]).length = _; rw [List.length_append, flE_len a]; rfl
 | .not a, b => by show (flE a b ++ [_]).length = _; rw [List.length_append, flE_len a]; rfl
 | .bin _ a c, b => by show (flE a b ++ flE c _ ++ [_]).length = _; rw [List.length_append, List.length_append, flE_len a, flE_len c]; rfl
def kEs : List Ex → Nat
 | [] => 0
 | e :: l => kE e + 1 + kEs l
def flEs : List Ex → Nat → List Nd
 | [], _ => []
 | e :: l, b => flE e b ++ flEs l (b + kE e + 1)
def rootEs : List Ex → Nat → List Int
 | [], _ => []
 | e :: l, b => ((b + kE e : Nat) : Int) :: rootEs l (b + kE e + 1)
theorem flEs_len : ∀ (l : List Ex) (b : Nat), (flEs l b).length = kEs l
 | [], _ => rfl
 | e :: l, b => by show (flE e b ++ flEs l _).length = _; rw [List.length_append, flE_len, flEs_len l]; rfl
theorem flEs_snoc : ∀ (l : List Ex) (e : Ex) (b : Nat), flEs (l ++ [e]) b = flEs l b ++ flE e (b + kEs l)
 | [], e, b => by show flE e b ++ [] = [] ++ flE e (b + 0); simp
 | a :: l, e, b => by
  show flE a b ++ flEs (l ++ [e]) (b + kE a + 1) = (flE a b ++ flEs l (b + kE a + 1)) ++ flE e (b + (kE a + 1 + kEs l))
  rw [flEs_snoc l e, List.append_assoc, show b + kE a + 1 + kEs l = b + (kE a + 1 + kEs l) by omega]
theorem rootEs_snoc : ∀ (l : List Ex) (e : Ex) (b : Nat), rootEs (l ++ [e]) b = rootEs l b ++ [((b + kEs l + kE e : Nat) : Int)]
 | [], e, b => rfl
 | a :: l, e, b => by
  show ((b + kE a : Nat) : Int) :: rootEs (l ++ [e]) (b + kE a + 1) = ((b + kE a : Nat) : Int) :: (rootEs l (b + kE a + 1) ++ [((b + (kE a + 1 + kEs l) + kE e : Nat) : Int)])
  rw [rootEs_snoc l e, show b + kE a + 1 + kEs l + kE e = b + (kE a + 1 + kEs l) + kE e by omega]
def kR : Rt → Nat
 | .ex e => kE e
 | .input => 0
 | .new a => kE a + 1
 | .call _ l => kEs l
def flR : Rt → Nat → List Nd
 | .ex e, b => flE e b
 | .input, _ => [⟨19, 0, 0, [], []⟩]
 | .new a, b => flE a b ++ [⟨20, 0, 0, [], [((b + kE a : Nat) : Int)]⟩]
 | .call s l, b => flEs l b ++ [⟨21, 0, 0, s, rootEs l b⟩]
theorem flR_len : ∀ (r : Rt) (b : Nat), (flR r b).length = kR r + 1
 | .ex e, b => flE_len e b
 | .input, _ => rfl
 | .new a, b => by show (flE a b ++ [_]).length = _; rw [List.length_append, flE_len a]; rfl
 | .call s l, b => by show (flEs l b ++ [_]).length = _; rw [List.length_append, flEs_len l]; rfl
mutual
def kS : Stm → Nat
 | .lt _ r => kR r + 1
 | .set _ r => kR r + 1
 | .put _ a c => kE a + 1 + (kE c + 1)
 | .doo _ l => kEs l + 1
 | .print a => kE a + 1
 | .ret0 => 0
 | .ret1 a => kE a + 1
 | .ifs c a => kE c + 1 + (kB a + 1)
 | .ifelse c a d => kE c + 1 + (kB a + 1) + (kB d + 1)
 | .whil c a => kE c + 1 + (kB a + 1)
def kB : Bl → Nat
 | .nil => 0
 | .cons s l => kS s + 1 + kB l
end
mutual
def flS : Stm → Nat → List Nd
 | .lt s r, b => flR r b ++ [⟨10, 0, 0, s, [((b + kR r : Nat) : Int)]⟩]
 | .set s r, b => flR r b ++ [⟨11, 0, 0, s, [((b + kR r : Nat) : Int)]⟩]
 | .put s a c, b => flE a b ++ flE c (b + kE a + 1) ++ [⟨12, 0, 0, s, [((b + kE a : Nat) : Int), ((b + kE a + 1 + kE c : Nat) : Int)]⟩]
 | .doo s l, b => flR (.call s l) b ++ [⟨13, 0, 0, [], [((b + kEs l : Nat) : Int)]⟩]
 | .print a, b => flE a b ++ [⟨14, 0, 0, [], [((b + kE a : Nat) : Int)]⟩]
 | .ret0, _ => [⟨17, 0, 0, [], []⟩]
 | .ret1 a, b => flE a b ++ [⟨17, 0, 0, [], [((b + kE a : Nat) : Int)]⟩]
 | .ifs c a, b => flE c b ++ (flB a (b + kE c + 1) ++ [⟨18, 0, 0, [], rootB a (b + kE c + 1)⟩]) ++ [⟨15, 0, 0, [], [((b + kE c : Nat) : Int), ((b + kE c + 1 + kB a : Nat) : Int)]⟩]
 | .ifelse c a d, b => flE c b ++ (flB a (b + kE c + 1) ++ [⟨18, 0, 0, [], rootB a (b + kE c + 1)⟩]) ++ (flB d (b + kE c + 1 + kB a + 1) ++ [⟨18, 0, 0, [], rootB d (b + kE c + 1 + kB a + 1)⟩]) ++ [⟨15, 0, 0, [], [((b + kE c : Nat) : Int), ((b + kE c + 1 + kB a : Nat) : Int), ((b + kE c + 1 + kB a + 1 + kB d : Nat) : Int)]⟩]
 | .whil c a, b => flE c b ++ (flB a (b + kE c + 1) ++ [⟨18, 0, 0, [], rootB a (b + kE c + 1)⟩]) ++ [⟨16, 0, 0, [], [((b + kE c : Nat) : Int), ((b + kE c + 1 + kB a : Nat) : Int)]⟩]
def flB : Bl → Nat → List Nd
 | .nil, _ => []
 | .cons s l, b => flS s b ++ flB l (b + kS s + 1)
def rootB : Bl → Nat → List Int
 | .nil, _ => []
 | .cons s l, b => ((b + kS s : Nat) : Int) :: rootB l (b + kS s + 1)
end
/-- A block with its own node. -/
def flK (a : Bl) (b : Nat) : List Nd := flB a b ++ [⟨18, 0, 0, [], rootB a b⟩]
mutual
theorem flS_len : ∀ (s : Stm) (b : Nat), (flS s b).length = kS s + 1
 | .lt s r, b => by unfold flS kS; rw [List.length_append, flR_len]; rfl
 | .set s r, b => by unfold flS kS; rw [List.length_append, flR_len]; rfl
 | .put s a c, b => by unfold flS kS; rw [List.length_append, List.length_append, flE_len, flE_len]; rfl
 | .doo s l, b => by unfold flS kS; rw [List.length_append, flR_len]; rfl
 | .print a, b => by unfold flS kS; rw [List.length_append, flE_len]; rfl
 | .ret0, b => by unfold flS kS; rfl
 | .ret1 a, b => by unfold flS kS; rw [List.length_append, flE_len]; rfl
 | .ifs c a, b => by unfold flS kS; rw [List.length_append, List.length_append, List.length_append, flE_len, flB_len]; rfl
 | .ifelse c a d, b => by unfold flS kS; rw [List.length_append, List.length_append, List.length_append, List.length_append, List.length_append, flE_len, flB_len, flB_len]; rfl
 | .whil c a, b => by unfold flS kS; rw [List.length_append, List.length_append, List.length_append, flE_len, flB_len]; rfl
theorem flB_len : ∀ (l : Bl) (b : Nat), (flB l b).length = kB l
 | .nil, b => by unfold flB kB; rfl
 | .cons s l, b => by unfold flB kB; rw [List.length_append, flS_len, flB_len]
end
theorem flK_len (a : Bl) (b : Nat) : (flK a b).length = kB a + 1 := by unfold flK; rw [List.length_append, flB_len]; rfl
theorem toBl_snoc (l : List Stm) (s : Stm) : (kB (toBl (l ++ [s])) = kB (toBl l) + (kS s + 1)) ∧ (∀ b, flB (toBl (l ++ [s])) b = flB (toBl l) b ++ flS s (b + kB (toBl l))) ∧ ∀ b, rootB (toBl (l ++ [s])) b = rootB (toBl l) b ++ [((b + kB (toBl l) + kS s : Nat) : Int)] := by
 induction l with
 | nil =>
  refine ⟨?_, fun b => ?_, fun b => ?_⟩
  ·show kB (.cons s .nil) = kB .nil + _
   unfold kB
   unfold kB
   omega
  ·show flB (.cons s .nil) b = flB .nil b ++ flS s (b + kB .nil)
   unfold flB kB
   unfold flB
   simp
  ·show rootB (.cons s .nil) b = rootB .nil b ++ [((b + kB .nil + kS s : Nat) : Int)]
   unfold rootB kB
   unfold rootB
   simp
 | cons a l ih =>
  obtain ⟨h1, h2, h3⟩ := ih
  refine ⟨?_, fun b => ?_, fun b => ?_⟩
  ·show kB (.cons a (toBl (l ++ [s]))) = kB (.cons a (toBl l)) + _
   conv => lhs; unfold kB
   conv => rhs; unfold kB
   rw [h1]; omega
  ·show flB (.cons a (toBl (l ++ [s]))) b = flB (.cons a (toBl l)) b ++ flS s (b + kB (.cons a (toBl l)))
   conv => lhs; unfold flB
   conv => rhs; unfold flB kB
   rw [h2, List.append_assoc, show b + kS a + 1 + kB (toBl l) = b + (kS a + 1 + kB (toBl l)) by omega]
  ·show rootB (.cons a (toBl (l ++ [s]))) b = rootB (.cons a (toBl l)) b ++ [((b + kB (.cons a (toBl l)) + kS s : Nat) : Int)]
   conv => lhs; unfold rootB
   conv => rhs; unfold rootB kB
   rw [h3, List.cons_append, show b + kS a + 1 + kB (toBl l) + kS s = b + (kS a + 1 + kB (toBl l)) + kS s by omega]
/-- What names and texts of a source are. -/
def NameOK (s : List UInt8) : Prop := s ≠ [] ∧ ltr (s.headD 0) = true ∧ (∀ c ∈ s, nmc c = true) ∧ s.length ≤ 8 ∧ isWord s = false
def TextOK (s : List UInt8) : Prop := (∀ c ∈ s, txc c = true) ∧ s.length ≤ 12
/-- An expression that may stand at a level, so deep. -/
def WE : Nat → Int → Ex → Prop
 | _, _, .int n => 0 ≤ n ∧ n ≤ 9223372036854775807
 | _, _, .bool _ => True
 | _, _, .text s => TextOK s
 | _, _, .var s => NameOK s
 | _, d, .index s a => NameOK s ∧ d < 16 ∧ WE 0 (d + 1) a
 | _, d, .len a => d < 16 ∧ WE 0 (d + 1) a
 | _, d, .neg a => d < 16 ∧ WE 5 (d + 1) a
 | _, d, .not a => d < 16 ∧ WE 5 (d + 1) a
 | lv, d, .bin s a b => s ∈ signs11 ∧ if lvS s < lv then d < 16 ∧ WE (if lvS s = 2 then 3 else lvS s) (d + 1) a ∧ WE (lvS s + 1) (d + 1) b else WE (if lvS s = 2 then 3 else lvS s) d a ∧ WE (lvS s + 1) d b
theorem WE.mono : ∀ (e : Ex) (lv lv' : Nat) (d d' : Int), lv ≤ lv' → d ≤ d' → WE lv' d' e → WE lv d e := by
 intro e
 induction e with
 | int n => exact fun _ _ _ _ _ _ h => h
 | bool b => exact fun _ _ _ _ _ _ h => h
 | text s => exact fun _ _ _ _ _ _ h => h
 | var s => exact fun _ _ _ _ _ _ h => h
 | index s a ih => exact fun _ _ d d' _ h2 h => ⟨h.1, by have := h.2.1; omega, ih 0 0 _ _ (Nat.le_refl _) (by omega) h.2.2⟩
 | len a ih => exact fun _ _ d d' _ h2 h => ⟨by have := h.1; omega, ih 0 0 _ _ (Nat.le_refl _) (by omega) h.2⟩
 | neg a ih => exact fun _ _ d d' _ h2 h => ⟨by have := h.1; omega, ih 5 5 _ _ (Nat.le_refl _) (by omega) h.2⟩
 | not a ih => exact fun _ _ d d' _ h2 h => ⟨by have := h.1; omega, ih 5 5 _ _ (Nat.le_refl _) (by omega) h.2⟩
 | bin s a b iha ihb =>
  intro lv lv' d d' h1 h2 h
  obtain ⟨h0, h⟩ := h
  refine ⟨h0, ?_⟩
  by_cases c1 : lvS s < lv
  ·rw [if_pos c1]
   rw [if_pos (by omega)] at h
   exact ⟨by have := h.1; omega, iha _ _ _ _ (Nat.le_refl _) (by omega) h.2.1, ihb _ _ _ _ (Nat.le_refl _) (by omega) h.2.2⟩
  ·rw [if_neg c1]
   by_cases c2 : lvS s < lv'
   ·rw [if_pos c2] at h
    exact ⟨iha _ _ _ _ (Nat.le_refl _) (by omega) h.2.1, ihb _ _ _ _ (Nat.le_refl _) (by omega) h.2.2⟩
   ·rw [if_neg c2] at h
    exact ⟨iha _ _ _ _ (Nat.le_refl _) h2 h.1, ihb _ _ _ _ (Nat.le_refl _) h2 h.2⟩
/-- Within parentheses it may stand anywhere. -/
theorem WE.par {e : Ex} {d : Int} (h : WE 0 (d + 1) e) (hd : d < 16) (lv : Nat) : WE lv d e := by
 cases e with
 | int n => exact h
 | bool b => exact h
 | text s => exact h
 | var s => exact h
 | index s a => exact WE.mono (.index s a) lv lv d (d + 1) (Nat.le_refl _) (by omega) h
 | len a => exact WE.mono (.len a) lv lv d (d + 1) (Nat.le_refl _) (by omega) h
 | neg a => exact WE.mono (.neg a) lv lv d (d + 1) (Nat.le_refl _) (by omega) h
 | not a => exact WE.mono (.not a) lv lv d (d + 1) (Nat.le_refl _) (by omega) h
 | bin s a b =>
  obtain ⟨h0, h⟩ := h
  rw [if_neg (by omega)] at h
  refine ⟨h0, ?_⟩
  by_cases c1 : lvS s < lv
  ·rw [if_pos c1]
   exact ⟨hd, h⟩
  ·rw [if_neg c1]
   exact ⟨WE.mono _ _ _ _ _ (Nat.le_refl _) (by omega) h.1, WE.mono _ _ _ _ _ (Nat.le_refl _) (by omega) h.2⟩
def WR (d : Int) : Rt → Prop
 | .ex e => WE 0 d e
 | .input => True
 | .new a => WE 0 d a
 | .call s l => NameOK s ∧ ∀ e ∈ l, WE 0 d e
mutual
def WS : Int → Stm → Prop
 | d, .lt s r => NameOK s ∧ WR d r
 | d, .set s r => NameOK s ∧ WR d r
 | d, .put s a b => NameOK s ∧ d < 16 ∧ WE 0 (d + 1) a ∧ WE 0 d b
 | d, .doo s l => WR d (.call s l)
 | d, .print a => WE 0 d a
 | _, .ret0 => True
 | d, .ret1 a => WE 0 d a
 | d, .ifs c a => WE 0 d c ∧ d < 16 ∧ WB (d + 1) a
 | d, .ifelse c a b => WE 0 d c ∧ d < 16 ∧ WB (d + 1) a ∧ WB (d + 1) b
 | d, .whil c a => WE 0 d c ∧ d < 16 ∧ WB (d + 1) a
def WB : Int → Bl → Prop
 | _, .nil => True
 | d, .cons s b => WS d s ∧ WB d b
end
theorem WB_snoc (d : Int) (l : List Stm) (s : Stm) (h : WB d (toBl l)) (hs : WS d s) : WB d (toBl (l ++ [s])) := by
 induction l with
 | nil =>
  show WB d (.cons s .nil)
  unfold WB
  exact ⟨hs, by unfold WB; trivial⟩
 | cons a l ih =>
  have h : WB d (.cons a (toBl l)) := h
  unfold WB at h
  show WB d (.cons a (toBl (l ++ [s])))
  unfold WB
  exact ⟨h.1, ih h.2⟩
/-- What a source's tokens are. -/
def TK (T : List Tok) : Prop := ∀ i, ((T.getD i default).k = 3 → NameOK (T.getD i default).x) ∧ ((T.getD i default).k = 2 → TextOK (T.getD i default).x)
/-- Of a run that ends without an error. -/
def Zt {α : Type} (P : PS → Prop) (m : PM α) (Q : α → PS → Prop) : Prop := ∀ s x s', m s = some (x, s') → s'.er = 0 → s.er = 0 ∧ (P s → Q x s')
section
variable {α β : Type} {P : PS → Prop}
theorem Zt.bind {m : PM α} {f : α → PM β} {R : α → PS → Prop} {Q : β → PS → Prop} (h : Zt P m R) (k : ∀ x, Zt (R x) (f x) Q) : Zt P (m >>= f) Q := by
 intro s x s' e he
 obtain ⟨a, t, e1, e2⟩ := bind_out e
 obtain ⟨h1, h2⟩ := k a t x s' e2 he
 obtain ⟨h3, h4⟩ := h s a t e1 h1
 exact ⟨h3, fun hp => h2 (h4 hp)⟩
theorem Zt.ask {γ : Type} {g : PS → γ} {f : γ → PM β} {Q : β → PS → Prop} (k : ∀ b, Zt (fun s => P s ∧ g s = b) (f b) Q) : Zt P (ask g >>= f) Q := by
 intro s x s' e he
 have e' : f (g s) s = some (x, s') := e
 obtain ⟨h1, h2⟩ := k (g s) s x s' e' he
 exact ⟨h1, fun hp => h2 ⟨hp, rfl⟩⟩
theorem Zt.mod {g : PS → PS} {f : Unit → PM β} {R : PS → Prop} {Q : β → PS → Prop} (hg : ∀ s, (g s).er = 0 → s.er = 0 ∧ (P s → R (g s))) (k : Zt R (f ()) Q) : Zt P (Go.Proofs.YtbhpnioggpgbhaaGreatDoor.mod g >>= f) Q := by
 intro s x s' e he
 have e' : f () (g s) = some (x, s') := e
 obtain ⟨h1, h2⟩ := k (g s) x s' e' he
 obtain ⟨h3, h4⟩ := hg s h1
 exact ⟨h3, fun hp => h2 (h4 hp)⟩
theorem Zt.ret {a : α} {Q : α → PS → Prop} (h : ∀ s, P s → Q a s) : Zt P (pure a) Q := by
 intro s x s' e he
 have e := pure_out e
 injection e with e1 e2
 subst e1
 subst e2
 exact ⟨he, h _⟩
theorem Zt.none {Q : α → PS → Prop} : Zt P (fun _ => none) Q := fun s x s' e => by cases e
theorem Zt.mono {m : PM α} {P' : PS → Prop} {Q R : α → PS → Prop} (h : Zt P m Q) (hp : ∀ s, P' s → P s) (k : ∀ a s, Q a s → R a s) : Zt P' m R := fun s x s' e he => ⟨(h s x s' e he).1, fun p => k x s' ((h s x s' e he).2 (hp s p))⟩
theorem Zt.pre {m : PM α} {P' : PS → Prop} {Q : α → PS → Prop} (h : Zt P m Q) (hp : ∀ s, P' s → P s) : Zt P' m Q := h.mono hp fun _ _ h => h
theorem Zt.exi {γ : Type} [Inhabited γ] {m : PM α} {G : γ → PS → Prop} {Q : α → PS → Prop} (h : ∀ y, Zt (G y) m Q) : Zt (fun s => ∃ y, G y s) m Q := fun s x s' e he => ⟨((h default) s x s' e he).1, fun ⟨y, g⟩ => ((h y) s x s' e he).2 g⟩
end
instance : Inhabited Ex := ⟨.bool true⟩
instance : Inhabited Rt := ⟨.input⟩
instance : Inhabited Stm := ⟨.ret0⟩
instance : Inhabited Bl := ⟨.nil⟩
/-- What is known, the nodes, but for lines, and how deep. -/
def Gz (F : Prop) (N : List Nd) (D : Int) (s : PS) : Prop := F ∧ s.nd.map uz = N ∧ s.dp = D
section
variable {src : List UInt8} {T : List Tok} {F : Prop} {N : List Nd} {D : Int}
theorem Gz.and {F' : Prop} {s : PS} (h : Gz F N D s) (h' : F') : Gz (F ∧ F') N D s := ⟨⟨h.1, h'⟩, h.2⟩
theorem er_next (s : PS) : (nextS T s).er = s.er := by unfold nextS; split <;> rfl
theorem dp_next (s : PS) : (nextS T s).dp = s.dp := by unfold nextS; split <;> rfl
theorem er_fail {e : Nat} (he : e ≠ 0) (s : PS) : (failS T e s).er ≠ 0 := by
 unfold failS
 split
 ·exact he
 ·assumption
theorem Gz.next {s : PS} (h : Gz F N D s) : Gz F N D (nextS T s) := ⟨h.1, by rw [nd_next]; exact h.2.1, by rw [dp_next]; exact h.2.2⟩
theorem next_z (s : PS) (h : (nextS T s).er = 0) : s.er = 0 ∧ (Gz F N D s → Gz F N D (nextS T s)) := ⟨by rwa [er_next] at h, fun g => g.next⟩
theorem want_z (x : List UInt8) (s : PS) (h : (wantS T x s).er = 0) : s.er = 0 ∧ (Gz F N D s → Gz F N D (wantS T x s)) := by
 unfold wantS at h ⊢
 split
 ·rename_i hc
  rw [if_pos hc, er_next] at h
  exact ⟨h, fun g => g.next⟩
 ·rename_i hc
  rw [if_neg hc] at h
  exact absurd h (er_fail (by decide) s)
theorem name_z (hT : TK T) (x : List UInt8) (s : PS) (h : (nameS T s).er = 0) : s.er = 0 ∧ ((Gz F N D s ∧ nameX T s = x) → Gz (F ∧ NameOK x) N D (nameS T s)) := by
 unfold nameS at h ⊢
 split
 ·rename_i hc
  rw [if_pos hc, er_next] at h
  refine ⟨h, fun ⟨g, hx⟩ => (g.next).and ?_⟩
  rw [← hx]
  unfold nameX
  rw [if_pos hc]
  exact (hT s.i).1 hc
 ·rename_i hc
  rw [if_neg hc] at h
  exact absurd h (er_fail (by decide) s)
theorem deep_z (d : Int) : Zt (Gz F N D) (deepS d) (fun _ s' => Gz F N (D + d) s') := by
 intro s x s' e he
 unfold deepS at e
 split at e
 ·cases e
  exact ⟨he, fun g => ⟨g.1, g.2.1, by show s.dp + d = D + d; rw [g.2.2]⟩⟩
 ·cases e
theorem open_z (x : List UInt8) : Zt (Gz F N D) (openM T x) (fun _ s' => Gz (F ∧ D < 16) N (D + 1) s') := by
 unfold openM
 refine Zt.mod (R := Gz (F ∧ D < 16) N D) ?_ (deep_z 1)
 intro s h
 unfold openS at h ⊢
 by_cases hc : (isS T [x] s && decide (16 ≤ s.dp)) = true
 ·rw [if_pos hc] at h
  obtain ⟨h1, _⟩ := want_z (F := F) (N := N) (D := D) x _ h
  exact absurd h1 (er_fail (by decide) s)
 ·rw [if_neg hc] at h ⊢
  obtain ⟨h1, h2⟩ := want_z (F := F) (N := N) (D := D) x s h
  refine ⟨h1, fun g => (h2 g).and ?_⟩
  have hi : isS T [x] s = true := by
   by_cases hi : isS T [x] s = true
   ·exact hi
   ·unfold wantS at h
    rw [if_neg hi] at h
    exact absurd h (er_fail (by decide) s)
  rw [hi, Bool.true_and] at hc
  have : ¬ (16 ≤ s.dp) := by simpa using hc
  have := g.2.2
  omega
theorem shut_z (x : List UInt8) : Zt (Gz F N (D + 1)) (shutM T x) (fun _ s' => Gz F N D s') := by
 unfold shutM
 refine Zt.mod (R := Gz F N (D + 1)) (fun s h => want_z x s h) ?_
 have := deep_z (F := F) (N := N) (D := D + 1) (-1)
 rw [show D + 1 + -1 = D by omega] at this
 exact this
theorem node_z (n : Nd) (xs : List Int) : Zt (Gz F N D) (nodeM n xs) (fun x s' => Gz (F ∧ x = ((N.length : Nat) : Int)) (N ++ [⟨n.k, 0, n.n, n.s, xs⟩]) D s') := by
 intro s x s' e he
 unfold nodeM at e
 split at e
 ·cases e
  refine ⟨he, fun g => ⟨⟨g.1, by rw [← g.2.1, List.length_map]⟩, ?_, g.2.2⟩⟩
  show (s.nd ++ [{ n with l := xs }]).map uz = _
  rw [List.map_append, g.2.1]
  rfl
 ·cases e
/-- What a part makes. -/
def EZ (lv : Nat) (m : PM Int) : Prop := ∀ F N D, Zt (Gz F N D) m (fun x s' => ∃ e, Gz (F ∧ WE lv D e ∧ x = ((N.length + kE e : Nat) : Int)) (N ++ flE e N.length) D s')
def RZ (m : PM Int) : Prop := ∀ F N D, Zt (Gz F N D) m (fun x s' => ∃ e, Gz (F ∧ WR D e ∧ x = ((N.length + kR e : Nat) : Int)) (N ++ flR e N.length) D s')
def SZ (m : PM Int) : Prop := ∀ F N D, Zt (Gz F N D) m (fun x s' => ∃ e, Gz (F ∧ WS D e ∧ x = ((N.length + kS e : Nat) : Int)) (N ++ flS e N.length) D s')
def KZ (m : PM Int) : Prop := ∀ F N D, Zt (Gz F N D) m (fun x s' => ∃ e, Gz (F ∧ (D < 16 ∧ WB (D + 1) e) ∧ x = ((N.length + kB e : Nat) : Int)) (N ++ flK e N.length) D s')
theorem Gz.to {F F' : Prop} {N N' : List Nd} {s : PS} (h : Gz F N D s) (hf : F → F' ∧ N = N') : Gz F' N' D s := by
 obtain ⟨h1, h2, h3⟩ := h
 obtain ⟨h4, rfl⟩ := hf h1
 exact ⟨h4, h2, h3⟩
theorem inside_z {ex : PM Int} (hx : EZ 0 ex) (a b : List UInt8) (F : Prop) (N : List Nd) (D : Int) : Zt (Gz F N D) (insideM T ex a b) (fun x s' => ∃ e, Gz (F ∧ (D < 16 ∧ WE 0 (D + 1) e) ∧ x = ((N.length + kE e : Nat) : Int)) (N ++ flE e N.length) D s') := by
 unfold insideM
 refine Zt.bind (open_z a) fun _ => ?_
 refine Zt.bind (hx _ _ _) fun x => ?_
 refine Zt.exi fun e => ?_
 refine Zt.bind (shut_z b) fun _ => ?_
 exact Zt.ret fun s g => ⟨e, g.to fun ⟨⟨h1, h2⟩, h3, h4⟩ => ⟨⟨h1, ⟨h2, h3⟩, h4⟩, rfl⟩⟩
theorem app_nil_len (N : List Nd) (e : Ex) : (N ++ flE e N.length).length = N.length + kE e + 1 := by rw [List.length_append, flE_len]; omega
theorem variable_z (hT : TK T) {ex : PM Int} (hx : EZ 0 ex) (ln : Int) (lv : Nat) : EZ lv (variableM T ex ln) := by
 intro F N D
 unfold variableM
 refine Zt.ask fun x => ?_
 refine Zt.mod (R := Gz (F ∧ NameOK x) N D) (fun s h => name_z hT x s h) ?_
 refine Zt.ask fun b => ?_
 refine Zt.pre (P := Gz (F ∧ NameOK x) N D) ?_ fun s h => h.1
 cases b with
 | true =>
  refine Zt.bind (inside_z hx _ _ _ _ _) fun y => ?_
  refine Zt.exi fun e => ?_
  exact (node_z _ _).mono (fun _ h => h) fun x2 s g => ⟨.index x e, g.to fun ⟨⟨⟨h1, h2⟩, ⟨h3, h4⟩, h5⟩, h6⟩ => ⟨⟨h1, ⟨h2, h3, h4⟩, by rw [h6, app_nil_len]; rfl⟩, by rw [h5, List.append_assoc]; rfl⟩⟩
 | false => exact (node_z _ _).mono (fun _ h => h) fun x2 s g => ⟨.var x, g.to fun ⟨⟨h1, h2⟩, h6⟩ => ⟨⟨h1, h2, by rw [h6]; rfl⟩, rfl⟩⟩
theorem atom_z (hT : TK T) {ex : PM Int} (hx : EZ 0 ex) (lv : Nat) : EZ lv (atomM src T ex) := by
 intro F N D
 unfold atomM
 refine Zt.ask fun ln => ?_
 refine Zt.ask fun k => ?_
 by_cases h1 : k.k = 1
 ·rw [if_pos h1]
  refine Zt.mod (R := Gz F N D) (fun s h => ⟨(next_z (F := F) (N := N) (D := D) s h).1, fun g => (next_z s h).2 g.1.1⟩) ?_
  exact (node_z _ _).mono (fun _ h => h) fun x2 s g => ⟨.int (intV k.x), g.to fun ⟨h2, h6⟩ => ⟨⟨h2, intV_in _, by rw [h6]; rfl⟩, rfl⟩⟩
 rw [if_neg h1]
 by_cases h2 : k.k = 2
 ·rw [if_pos h2]
  refine Zt.mod (R := Gz (F ∧ TextOK k.x) N D) (fun s h => ⟨(next_z (F := F) (N := N) (D := D) s h).1, fun g => ((next_z s h).2 g.1.1).and (by have e : tokA T s = k := g.2; rw [← e] at h2 ⊢; exact (hT s.i).2 h2)⟩) ?_
  exact (node_z _ _).mono (fun _ h => h) fun x2 s g => ⟨.text k.x, g.to fun ⟨⟨h2, h3⟩, h6⟩ => ⟨⟨h2, h3, by rw [h6]; rfl⟩, rfl⟩⟩
 rw [if_neg h2]
 refine Zt.ask fun b => ?_
 cases b with
 | true =>
  refine Zt.mod (R := Gz F N D) (fun s h => ⟨(next_z (F := F) (N := N) (D := D) s h).1, fun g => (next_z s h).2 g.1.1.1⟩) ?_
  refine (node_z _ _).mono (fun _ h => h) fun x2 s g => ⟨.bool (decide (k.x = [116, 114, 117, 101])), g.to fun ⟨h2, h6⟩ => ⟨⟨h2, trivial, by rw [h6]; rfl⟩, ?_⟩⟩
  show N ++ [_] = N ++ [_]
  by_cases hc : k.x = [116, 114, 117, 101]
  ·rw [if_pos hc, decide_eq_true hc]; rfl
  ·rw [if_neg hc, decide_eq_false hc]; rfl
 | false =>
  refine Zt.ask fun b => ?_
  cases b with
  | true =>
   refine Zt.mod (R := Gz F N D) (fun s h => ⟨(next_z (F := F) (N := N) (D := D) s h).1, fun g => (next_z s h).2 g.1.1.1.1⟩) ?_
   refine Zt.bind (inside_z hx _ _ _ _ _) fun y => ?_
   refine Zt.exi fun e => ?_
   exact (node_z _ _).mono (fun _ h => h) fun x2 s g => ⟨.len e, g.to fun ⟨⟨h1, ⟨h3, h4⟩, h5⟩, h6⟩ => ⟨⟨h1, ⟨h3, h4⟩, by rw [h6, app_nil_len]; rfl⟩, by rw [h5, List.append_assoc]; rfl⟩⟩
  | false =>
   refine Zt.ask fun b => ?_
   cases b with
   | true => exact (inside_z hx _ _ F N D).mono (fun s h => h.1.1.1.1.1) fun x s ⟨e, g⟩ => ⟨e, g.to fun ⟨h1, ⟨h2, h3⟩, h4⟩ => ⟨⟨h1, h3.par h2 lv, h4⟩, rfl⟩⟩
   | false => exact (variable_z hT hx ln lv F N D).pre fun s h => h.1.1.1.1.1
theorem factor_z (hT : TK T) {fac ex : PM Int} (hf : EZ 5 fac) (hx : EZ 0 ex) (lv : Nat) : EZ lv (factorM src T fac ex) := by
 intro F N D
 unfold factorM
 refine Zt.ask fun ln => ?_
 refine Zt.ask fun k => ?_
 refine Zt.ask fun b => ?_
 cases b with
 | true =>
  refine Zt.pre (P := Gz F N D) ?_ fun s h => h.1.1.1
  refine Zt.bind (open_z _) fun _ => ?_
  refine Zt.bind (hf _ _ _) fun x => ?_
  refine Zt.exi fun e => ?_
  refine Zt.bind (deep_z _) fun _ => ?_
  refine (node_z _ _).mono (fun _ h => h) fun x2 s g => ⟨.not e, ?_⟩
  rw [show D + 1 + -1 = D by omega] at g
  exact g.to fun ⟨⟨⟨h1, h3⟩, h4, h5⟩, h6⟩ => ⟨⟨h1, ⟨h3, h4⟩, by rw [h6, app_nil_len]; rfl⟩, by rw [h5, List.append_assoc]; rfl⟩
 | false =>
  refine Zt.ask fun b => ?_
  cases b with
  | true =>
   refine Zt.pre (P := Gz F N D) ?_ fun s h => h.1.1.1.1
   refine Zt.bind (open_z _) fun _ => ?_
   refine Zt.bind (hf _ _ _) fun x => ?_
   refine Zt.exi fun e => ?_
   refine Zt.bind (deep_z _) fun _ => ?_
   refine (node_z _ _).mono (fun _ h => h) fun x2 s g => ⟨.neg e, ?_⟩
   rw [show D + 1 + -1 = D by omega] at g
   exact g.to fun ⟨⟨⟨h1, h3⟩, h4, h5⟩, h6⟩ => ⟨⟨h1, ⟨h3, h4⟩, by rw [h6, app_nil_len]; rfl⟩, by rw [h5, List.append_assoc]; rfl⟩
  | false => exact (atom_z hT hx lv F N D).pre fun s h => h.1.1.1.1
theorem lvS_signs {lv : Nat} (hlv : lv < 5) {x : List UInt8} (h : x ∈ signsL lv) : lvS x = lv ∧ x ∈ signs11 := by
 match lv, hlv with
 | 0, _ => exact (by decide : ∀ x ∈ signsL 0, lvS x = 0 ∧ x ∈ signs11) x h
 | 1, _ => exact (by decide : ∀ x ∈ signsL 1, lvS x = 1 ∧ x ∈ signs11) x h
 | 2, _ => exact (by decide : ∀ x ∈ signsL 2, lvS x = 2 ∧ x ∈ signs11) x h
 | 3, _ => exact (by decide : ∀ x ∈ signsL 3, lvS x = 3 ∧ x ∈ signs11) x h
 | 4, _ => exact (by decide : ∀ x ∈ signsL 4, lvS x = 4 ∧ x ∈ signs11) x h
theorem isS_in {xs : List (List UInt8)} {s : PS} (h : isS T xs s = true) : (tokA T s).x ∈ xs := by
 unfold isS at h
 rw [Bool.and_eq_true] at h
 simpa using h.2
theorem chain_z {lv : Nat} (hlv : lv < 5) {sub : PM Int} (hsub : EZ (lv + 1) sub) {ln : Int} (F : Prop) (N : List Nd) (D : Int) : ∀ n x e, (lv = 2 → F → WE 3 D e) → Zt (Gz (F ∧ WE lv D e ∧ x = ((N.length + kE e : Nat) : Int)) (N ++ flE e N.length) D) (chainR T lv sub ln n x) (fun x s' => ∃ e, Gz (F ∧ WE lv D e ∧ x = ((N.length + kE e : Nat) : Int)) (N ++ flE e N.length) D s') := by
 intro n
 induction n with
 | zero => intro x e _; exact Zt.none
 | succ n ih =>
  intro x e h2
  unfold chainR
  refine Zt.ask fun b => ?_
  cases b with
  | true =>
   rw [if_pos rfl]
   refine Zt.ask fun k => ?_
   refine Zt.mod (R := Gz ((F ∧ WE lv D e ∧ x = ((N.length + kE e : Nat) : Int)) ∧ k.x ∈ signsL lv) (N ++ flE e N.length) D) (fun s h => ⟨(next_z (F := F) (N := N) (D := D) s h).1, fun g => ((next_z s h).2 g.1.1).and (by have e : tokA T s = k := g.2; rw [← e]; exact isS_in g.1.2)⟩) ?_
   refine Zt.bind (hsub _ _ _) fun y => ?_
   refine Zt.exi fun e2 => ?_
   refine Zt.bind (node_z _ _) fun z => ?_
   have key : ∀ s, Gz (((((F ∧ WE lv D e ∧ x = ((N.length + kE e : Nat) : Int)) ∧ k.x ∈ signsL lv) ∧ WE (lv + 1) D e2 ∧ y = (((N ++ flE e N.length).length + kE e2 : Nat) : Int))) ∧ z = (((N ++ flE e N.length ++ flE e2 (N ++ flE e N.length).length).length : Nat) : Int)) (N ++ flE e N.length ++ flE e2 (N ++ flE e N.length).length ++ [⟨9, 0, 0, k.x, [x, y]⟩]) D s → Gz (F ∧ WE lv D (.bin k.x e e2) ∧ z = ((N.length + kE (.bin k.x e e2) : Nat) : Int)) (N ++ flE (.bin k.x e e2) N.length) D s := by
    intro s g
    refine g.to fun ⟨⟨⟨⟨hF, h3, h4⟩, h5⟩, h6, h7⟩, h8⟩ => ⟨⟨hF, ?_, ?_⟩, ?_⟩
    ·obtain ⟨h9, h10⟩ := lvS_signs hlv h5
     refine ⟨h10, ?_⟩
     rw [if_neg (by omega), h9]
     refine ⟨?_, h6⟩
     by_cases hl : lv = 2
     ·rw [if_pos hl]
      exact h2 hl hF
     ·rw [if_neg hl]
      exact h3
    ·rw [h8, List.length_append, app_nil_len, flE_len]
     show ((_ : Nat) : Int) = ((N.length + (kE e + 1 + (kE e2 + 1)) : Nat) : Int)
     congr 1
     omega
    ·rw [h4, h7, app_nil_len]
     show _ = N ++ (flE e N.length ++ flE e2 (N.length + kE e + 1) ++ [_])
     simp only [List.append_assoc]
   by_cases hl : lv = 2
   ·rw [if_pos hl]
    exact Zt.ret fun s g => ⟨_, key s g⟩
   ·rw [if_neg hl]
    exact (ih z (.bin k.x e e2) (fun h => absurd h hl)).pre key
  | false =>
   rw [if_neg (by decide)]
   exact Zt.ret fun s g => ⟨e, g.1⟩
theorem ex_z (hT : TK T) : ∀ n lv, lv ≤ 5 → EZ lv (exM src T n lv) := by
 intro n
 induction n with
 | zero => intro lv _ F N D; exact Zt.none
 | succ n ih =>
  intro lv hlv F N D
  unfold exM
  by_cases h5 : lv = 5
  ·rw [if_pos h5]
   exact factor_z hT (ih 5 (by omega)) (ih 0 (by omega)) lv F N D
  ·rw [if_neg h5]
   refine Zt.ask fun ln => ?_
   refine Zt.pre (P := Gz F N D) ?_ fun s h => h.1
   refine Zt.bind (ih (lv + 1) (by omega) F N D) fun x => ?_
   refine Zt.exi fun e => ?_
   have h := chain_z (T := T) (lv := lv) (by omega) (ih (lv + 1) (by omega)) (ln := ln) (F ∧ WE (lv + 1) D e) N D n x e (fun h hF => by have := hF.2; rw [h] at this; exact this)
   refine h.mono (fun s g => g.to fun ⟨h1, h2, h3⟩ => ⟨⟨⟨h1, h2⟩, WE.mono _ _ _ _ _ (by omega) (Int.le_refl _) h2, h3⟩, rfl⟩) fun x s ⟨e', g⟩ => ⟨e', g.to fun ⟨⟨h1, _⟩, h2⟩ => ⟨⟨h1, h2⟩, rfl⟩⟩
end
end Go.Proofs.YtbhpnioggpgbhaaGreatDoor
