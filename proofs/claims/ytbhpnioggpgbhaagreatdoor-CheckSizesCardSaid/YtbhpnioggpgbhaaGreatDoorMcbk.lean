/-
 Layer 4: what is visible at a node: data, and the closure's memory. Written by an AI agent.
-/
import Derived.Test.YtbhpnioggpgbhaaGreatDoorMcbj
namespace Go.Proofs.YtbhpnioggpgbhaaGreatDoor
open Go Go.RowKit Go.Shelf
set_option linter.unusedVariables false
set_option linter.unusedSimpArgs false
/-- The variables in memory, while one looks for a node. -/
structure VsX (w : World) (B : Nat) (w0 : World) (R : Nat → Prop) (V : List Vb) (v : Value) : Prop where
 c : w.cell? ⟨B, 0, none⟩ = some v
 fz : w.frozen? ⟨B, 0, none⟩ = false
 lt : ∀ b, R b → b < w.heap.size
 rB : R B
 own : w.ownsRow 0 46 3 v V.length (flatV V)
 vb : ∀ g, v.ownBlock = some g → R g ∧ g ≠ B
 up : Keeps (fun b => w0.heap.size ≤ b) w0 w
 hi : ∀ b, R b → w0.heap.size ≤ b
def Vs (w : World) (B : Nat) (w0 : World) (R : Nat → Prop) (V : List Vb) : Prop := ∃ v, VsX w B w0 R V v
theorem VsX.keep {w w' : World} {B : Nat} {w0 : World} {R : Nat → Prop} {V : List Vb} {v : Value} (h : VsX w B w0 R V v) (k : Keeps (fun _ => False) w w') : VsX w' B w0 R V v :=
 ⟨(k.cell (h.lt _ h.rB) (fun h => h)).trans h.c, (k.frozen (h.lt _ h.rB) (fun h => h)).trans h.fz, fun b hb => Nat.lt_of_lt_of_le (h.lt b hb) k.size, h.rB, ownsRow_keep h.own (fun g hg => k.block g (own_ltk h.own hg) (fun h => h)), h.vb, h.up.trans k (fun _ _ h => h.elim), h.hi⟩
theorem Vs.keep {w w' : World} {B : Nat} {w0 : World} {R : Nat → Prop} {V : List Vb} (h : Vs w B w0 R V) (k : Keeps (fun _ => False) w w') : Vs w' B w0 R V := by
 obtain ⟨v, h⟩ := h
 exact ⟨v, h.keep k⟩
theorem VsX.cut {w : World} {B : Nat} {w0 : World} {R : Nat → Prop} {V : List Vb} {A : Option Addr} {m c : Nat} (h : VsX w B w0 R V (.slice A m c)) (hm : m = V.length) (n : Nat) (hn : n ≤ m) : Vs (w.setCell ⟨B, 0, none⟩ (.slice A n c)) B w0 R (V.take n) ∧ Fr R w R (w.setCell ⟨B, 0, none⟩ (.slice A n c)) := by
 have ho := h.own
 rw [← hm] at ho
 have ht := ownsRow_take ho n hn
 have k := one_block w B 0 (.slice A n c)
 have hvb : ∀ g, (Value.slice A n c).ownBlock = some g → R g ∧ g ≠ B := fun g hg => h.vb g (by cases A with | none => cases hg | some a => exact hg)
 have ht2 : w.ownsRow 0 46 3 (.slice A n c) (V.take n).length (flatV (V.take n)) := by rw [List.length_take, Nat.min_eq_left (by omega), ← flatV_take]; exact ht
 exact ⟨⟨_, ⟨cell_same w B 0 _ _ h.c, (World.frozen?_setCell w _ _ _).trans h.fz, fun b hb => Nat.lt_of_lt_of_le (h.lt b hb) k.size, h.rB, ownsRow_keep ht2 (fun g hg => k.block g (own_ltk ht2 hg) (fun e => (hvb g hg).2 e)), hvb, h.up.trans k (fun b _ e => by have e : b = B := e; rw [e]; exact h.hi _ h.rB), h.hi⟩⟩, ⟨k.mono (fun b _ e => by have e : b = B := e; rw [e]; exact h.rB), fun _ _ h => h⟩⟩
/-- A variable more. -/
theorem VsX.grow {w : World} {B : Nat} {w0 : World} {R : Nat → Prop} {V : List Vb} {v : Value} (h : VsX w B w0 R V v) {w3 w5 : World} (k1 : Keeps (fun _ => False) w w3) (y : Vb) {v5 : Value} (ho : w5.ownsRow 0 46 3 v5 (V.length + 1) (flatV V ++ [.string (ofL y.x), .int .i64 y.t, .int .i64 y.s])) (hg : w3.grownBy w5 v.ownBlock) (hb : v5.ownBlock = v.ownBlock ∨ v5.ownBlock = some w3.heap.size) :
  (w5.cell? ⟨B, 0, none⟩ = some v ∧ w5.frozen? ⟨B, 0, none⟩ = false) ∧ ∃ R', Vs (w5.setCell ⟨B, 0, none⟩ v5) B w0 R' (V ++ [y]) ∧ Fr R w R' (w5.setCell ⟨B, 0, none⟩ v5) := by
 have hB := h.lt _ h.rB
 have hs1 := k1.size
 have k15 : Keeps (fun b => v.ownBlock = some b) w3 w5 := ⟨hg.os, hg.tape, hg.output, hg.size, fun b hb hn => hg.block b hb (fun e => hn e.symm)⟩
 have k25 : Keeps (fun b => v.ownBlock = some b) w w5 := (k1.mono (T := fun b => v.ownBlock = some b) (fun _ _ h => h.elim)).trans k15 (fun _ _ e => e)
 have nB : ¬ v.ownBlock = some B := fun e => (h.vb _ e).2 rfl
 have cB := (k25.cell hB nB).trans h.c
 have fB := (k25.frozen hB nB).trans h.fz
 have kw := one_block w5 B 0 v5
 have kall : Keeps (fun b => b = B ∨ v.ownBlock = some b) w (w5.setCell ⟨B, 0, none⟩ v5) :=
  (k25.mono (T := fun b => b = B ∨ v.ownBlock = some b) (fun _ _ e => .inr e)).trans kw (fun _ _ e => .inl e)
 have b5 : ∀ g, v5.ownBlock = some g → g = w3.heap.size ∨ v.ownBlock = some g := fun g hg => by
  rcases hb with e | e
  ·exact .inr (e ▸ hg)
  ·rw [e] at hg; cases hg; exact .inl rfl
 have sz5 : w3.heap.size ≤ w5.heap.size := hg.size
 have sz6 : (w5.setCell ⟨B, 0, none⟩ v5).heap.size = w5.heap.size := by simp
 have nv5 : ∀ g, v5.ownBlock = some g → g ≠ B := fun g hg e => by
  rcases b5 g hg with e2 | e2
  ·omega
  ·exact (h.vb g e2).2 e
 have base := h.up.size
 refine ⟨⟨cB, fB⟩, fun b => R b ∨ v5.ownBlock = some b, ⟨v5, {
  c := cell_same w5 B 0 _ _ cB, fz := (World.frozen?_setCell w5 _ _ _).trans fB
  lt := fun b hb => by
   rw [sz6]
   rcases hb with hb | hb
   ·exact Nat.lt_of_lt_of_le (h.lt b hb) (by omega)
   ·exact (ho.lt b hb).2
  rB := .inl h.rB
  own := by
   rw [flatV_append, List.length_append]
   exact ownsRow_keep ho (fun g hg => kw.block g (ho.lt g hg).2 (fun e => nv5 g hg e))
  vb := fun g hg => ⟨.inr hg, nv5 g hg⟩
  up := h.up.trans kall (fun b _ e => by
   rcases e with e | e
   ·rw [e]; exact h.hi _ h.rB
   ·exact h.hi _ (h.vb b e).1)
  hi := fun b hb => by
   rcases hb with hb | hb
   ·exact h.hi b hb
   ·rcases b5 b hb with e | e
    ·omega
    ·exact h.hi _ (h.vb b e).1 }⟩, kall.mono (fun b _ e => by
   rcases e with e | e
   ·rw [e]; exact h.rB
   ·exact (h.vb b e).1), fun b hb hr => ?_⟩
 rcases hr with hr | hr
 ·exact hr
 ·rcases b5 b hr with e | e
  ·omega
  ·exact (h.vb b e).1
/-- A program that was there ahead: its tree, types, slots. -/
structure PrB (w0 : World) (nd : List Nd) (fs : List Fnc) (L : List Tri) (A A' T S F Z : Option Addr) (c c' cT cS cF cZ kz : Nat) : Prop where
 tree : TreeR 0 w0 A A' nd fs
 cap : CapR w0 A nd
 rT : RdI w0 T (L.map Tri.t)
 rS : RdI w0 S (L.map Tri.s)
 rF : RdI w0 F (L.map Tri.f)
abbrev prgV (nd : List Nd) (fs : List Fnc) (L : List Tri) (A A' T S F Z : Option Addr) (c c' cT cS cF cZ kz : Nat) : List Value := [.slice A nd.length c, .slice A' fs.length c', .slice T L.length cT, .slice S L.length cS, .slice F L.length cF, .slice Z kz cZ]
/-- What one child comes to. -/
inductive InI (C : Int → List Vb → Bool × List Vb → Prop) : List Int → List Vb → Bool × List Vb → Prop
 | nil (V : List Vb) : InI C [] V (false, V)
 | found (x : Int) (l : List Int) (V V' : List Vb) : C x V (true, V') → InI C (x :: l) V (true, V')
 | next (x : Int) (l : List Int) (V V1 : List Vb) (r : Bool × List Vb) : C x V (false, V1) → V1.length ≤ 900 → InI C l V1 r → InI C (x :: l) V r
def StC (C : Int → List Vb → Bool × List Vb → Prop) (nd : List Nd) (L : List Tri) (node x : Int) (V : List Vb) (r : Bool × List Vb) : Prop :=
 (x = node ∧ r = (true, V)) ∨ (x ≠ node ∧ ∃ (j : Nat) (k n : Int) (s : List UInt8) (l : List Int), x = (j : Int) ∧ At nd x k n s l ∧ l.length ≤ 1000 ∧
  ((k = 10 ∧ ∃ (i : Nat) (t1 t2 : Tri), l[0]? = some (i : Int) ∧ L[i]? = some t1 ∧ L[j]? = some t2 ∧ r = (false, V ++ [⟨s, t1.t, t2.s⟩])) ∨ ((k = 15 ∨ k = 16) ∧ 2 ≤ l.length ∧ InI C l.tail V r) ∨ (k ≠ 10 ∧ k ≠ 15 ∧ k ≠ 16 ∧ r = (false, V))))
section
variable (nd : List Nd) (fs : List Fnc) (L : List Tri) (A A' T S F Z : Option Addr) (c c' cT cS cF cZ kz : Nat) (w0 : World) (node : Int) (Bv Bp Bn Bl : Nat)
/-- What the closure asks of memory. -/
structure LkW (w : World) (R : Nat → Prop) (V : List Vb) : Prop where
 vs : Vs w Bv w0 R V
 p : Loc w R Bp (prgV nd fs L A A' T S F Z c c' cT cS cF cZ kz)
 n : Loc w R Bn [.int .i64 node]
 l : Loc w R Bl [.func (.func 31) #[] #[.pointer (some ⟨Bv, 0, none⟩), .pointer (some ⟨Bp, 0, none⟩), .pointer (some ⟨Bn, 0, none⟩), .pointer (some ⟨Bl, 0, none⟩)]]
 sz : V.length ≤ 1000
def LkC (at_ : Int) (V : List Vb) (r : Bool × List Vb) : Prop := ∀ w R, LkW nd fs L A A' T S F Z c c' cT cS cF cZ kz w0 node Bv Bp Bn Bl w R V →
 Calls Tryz.prog 31 #[.int .i64 at_, .pointer (some ⟨Bv, 0, none⟩), .pointer (some ⟨Bp, 0, none⟩), .pointer (some ⟨Bn, 0, none⟩), .pointer (some ⟨Bl, 0, none⟩)] w fun e w' => e = .returned (.bool r.1) ∧ ∃ R', Vs w' Bv w0 R' r.2 ∧ Fr R w R' w'
end
end Go.Proofs.YtbhpnioggpgbhaaGreatDoor
