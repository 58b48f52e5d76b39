/-
 Layer 4: the program's checker in memory. Written by an AI agent.
 Layer 4: the program's function, isBlock, sign. Written by an AI agent.
 Layer 4: the program's find, fail. Written by an AI agent.
-/
import Derived.Laws.ResultCell
import Derived.Test.YtbhpnioggpgbhaaGreatDoorMcae
import Derived.Test.YtbhpnioggpgbhaaGreatDoorMcat
namespace Go.Proofs.YtbhpnioggpgbhaaGreatDoor
open Go Go.RowKit Go.Shelf
set_option linter.unusedVariables false
set_option linter.unusedSimpArgs false
/-- A row of numbers of its own. -/
structure RowN (w : World) (b : Nat) (l : List Int) : Prop where
 cell : ∀ j v, l[j]? = some v → w.cell? ⟨b, j, none⟩ = some (.int .i64 v)
 fz : ∀ k, w.frozen? ⟨b, k, none⟩ = false
theorem RowN.keepR {w w' : World} {b : Nat} {l : List Int} (h : RowN w b l) (hb : b < w.heap.size) {S : Nat → Prop} (k : Keeps S w w') (hS : ¬ S b) : RowN w' b l :=
 ⟨fun j v hv => (k.cell hb hS).trans (h.cell j v hv), fun j => (k.frozen hb hS).trans (h.fz j)⟩
theorem RowN.set {w : World} {b : Nat} {l : List Int} (h : RowN w b l) (j : Nat) (v : Int) (hj : j < l.length) : RowN (w.setCell ⟨b, j, none⟩ (.int .i64 v)) b (l.set j v) := by
 refine ⟨fun i u hu => ?_, fun k => (World.frozen?_setCell w _ _ _).trans (h.fz k)⟩
 rw [List.getElem?_set] at hu
 by_cases e : j = i
 ·subst e
  rw [if_pos rfl, if_pos hj] at hu
  rw [← Option.some.inj hu]
  exact cell_same w b j _ _ (h.cell j l[j] (List.getElem?_eq_getElem hj))
 ·rw [if_neg e] at hu
  exact (cell_other w j i _ (.inl e)).trans (h.cell i u hu)
/-- What the checker has come to. -/
structure CkS where
 ty : List Int
 sl : List Int
 ff : List Int
 sz : List Int
 V : List Vb
 fn : Int
 bad : Int
 e : Int
def flatV (V : List Vb) : List Value := V.flatMap fun v => [.string (ofL v.x), .int .i64 v.t, .int .i64 v.s]
theorem flatV_length (V : List Vb) : (flatV V).length = V.length * 3 := by
 induction V with
 | nil => rfl
 | cons a V ih => show ([_, _, _] ++ flatV V).length = (V.length + 1) * 3; rw [List.length_append, ih]; simp; omega
theorem flatV_append (V W : List Vb) : flatV (V ++ W) = flatV V ++ flatV W := by unfold flatV; rw [List.flatMap_append]
theorem flatV_at : ∀ (V : List Vb) (i : Nat) (v : Vb), V[i]? = some v → (flatV V)[i * 3]? = some (.string (ofL v.x)) ∧ (flatV V)[i * 3 + 1]? = some (.int .i64 v.t) ∧ (flatV V)[i * 3 + 2]? = some (.int .i64 v.s)
 | [], i, v, h => by cases h
 | a :: V, 0, v, h => by
  have : a = v := Option.some.inj h
  subst this
  exact ⟨rfl, rfl, rfl⟩
 | a :: V, i + 1, v, h => by
  have ih := flatV_at V i v h
  have e : flatV (a :: V) = [.string (ofL a.x), .int .i64 a.t, .int .i64 a.s] ++ flatV V := rfl
  rw [e, show (i + 1) * 3 = 3 + i * 3 by omega, List.getElem?_append_right (by simp), show 3 + i * 3 + 1 = 3 + (i * 3 + 1) by omega, List.getElem?_append_right (by simp), show 3 + i * 3 + 2 = 3 + (i * 3 + 2) by omega, List.getElem?_append_right (by simp)]
  simpa using ih
theorem flatV_take (V : List Vb) (n : Nat) : (flatV V).take (n * 3) = flatV (V.take n) := by
 induction V generalizing n with
 | nil => simp [flatV]
 | cons a V ih =>
  cases n with
  | zero => simp [flatV]
  | succ n =>
   have e : flatV (a :: V) = [.string (ofL a.x), .int .i64 a.t, .int .i64 a.s] ++ flatV V := rfl
   rw [e, show (n + 1) * 3 = 3 + n * 3 by omega, List.take_append]
   have e2 : flatV ((a :: V).take (n + 1)) = [.string (ofL a.x), .int .i64 a.t, .int .i64 a.s] ++ flatV (V.take n) := rfl
   rw [e2, ← ih n, List.take_of_length_le (by show 3 ≤ 3 + n * 3; omega)]
   show _ ++ (flatV V).take (3 + n * 3 - 3) = _
   rw [show 3 + n * 3 - 3 = n * 3 by omega]
/-- A row of its own, cut. -/
theorem ownsRow_take {w : World} {T : TypeId} {size n c : Nat} {A : Option Addr} {xs : List Value} (h : w.ownsRow 0 T size (.slice A n c) n xs) (k : Nat) (hk : k ≤ n) : w.ownsRow 0 T size (.slice A k c) k (xs.take (k * size)) := by
 obtain ⟨h1, h2⟩ := h
 refine ⟨by rw [List.length_take, h1]; exact Nat.min_eq_left (Nat.mul_le_mul_right _ hk), ?_⟩
 rcases h2 with ⟨e, rfl⟩ | ⟨g, cap, cur, e, h3, h4, h5, h6, h7, h8⟩
 ·injection e with e1 e2 e3
  have : k = 0 := by omega
  exact .inl ⟨by rw [e1, e3, this], this⟩
 ·injection e with e1 e2 e3
  refine .inr ⟨g, cap, cur, by rw [e1, e3], h3, h4, by omega, h6, h7, ?_⟩
  rw [← h8, List.take_take]
  congr 1
  exact (Nat.min_eq_left (Nat.mul_le_mul_right _ hk)).symm
/-- A tree that stands in blocks below. -/
theorem TreeR.keepHi {w w' : World} {A A' : Option Addr} {nd : List Nd} {fs : List Fnc} (h : TreeR 0 w A A' nd fs) (k : Keeps (fun b => w.heap.size ≤ b) w w') : TreeR 0 w' A A' nd fs := by
 obtain ⟨⟨L, e1, h1, h2⟩, ⟨M, e2, h3, h4⟩⟩ := h
 refine ⟨⟨L, e1, ?_, fun x hx => ?_⟩, ⟨M, e2, ?_, fun x hx => ?_⟩⟩
 ·exact h1.keep k (fun h0 b off e hb => by have := h1.lt h0 e; omega)
 ·exact (h2 x hx).keep k (fun h0 b off e hb => by have := (h2 x hx).lt h0 e; omega)
 ·exact h3.keep k (fun h0 b off e hb => by have := h3.lt h0 e; omega)
 ·exact (h4 x hx).keep k (fun h0 b off e hb => by have := (h4 x hx).lt h0 e; omega)
/-- The blocks of a checker. -/
structure CkQ where
 P : Nat
 T : Nat
 S : Nat
 F : Nat
 Z : Nat
 A : Option Addr
 A' : Option Addr
 m : Nat
 c : Nat
 k : Nat
 c' : Nat
/-- A checker in memory, in blocks of R alone; the tree stands below. -/
structure CkX (w : World) (q : CkQ) (nd : List Nd) (fs : List Fnc) (w0 : World) (R : Nat → Prop) (s : CkS) (v : Value) : Prop where
 c0 : w.cell? ⟨q.P, 0, none⟩ = some (.slice q.A q.m q.c)
 c1 : w.cell? ⟨q.P, 1, none⟩ = some (.slice q.A' q.k q.c')
 c2 : w.cell? ⟨q.P, 2, none⟩ = some (.slice (some ⟨q.T, 0, none⟩) q.m q.m)
 c3 : w.cell? ⟨q.P, 3, none⟩ = some (.slice (some ⟨q.S, 0, none⟩) q.m q.m)
 c4 : w.cell? ⟨q.P, 4, none⟩ = some (.slice (some ⟨q.F, 0, none⟩) q.m q.m)
 c5 : w.cell? ⟨q.P, 5, none⟩ = some (.slice (some ⟨q.Z, 0, none⟩) q.k q.k)
 c6 : w.cell? ⟨q.P, 6, none⟩ = some v
 c7 : w.cell? ⟨q.P, 7, none⟩ = some (.int .i64 s.fn)
 c8 : w.cell? ⟨q.P, 8, none⟩ = some (.int .i64 s.bad)
 c9 : w.cell? ⟨q.P, 9, none⟩ = some (.int .i64 s.e)
 fz : ∀ j, w.frozen? ⟨q.P, j, none⟩ = false
 hm : q.m = nd.length
 hk : q.k = fs.length
 lt : ∀ b, R b → b < w.heap.size
 rP : R q.P
 rT : R q.T
 rS : R q.S
 rF : R q.F
 rZ : R q.Z
 dist : [q.P, q.T, q.S, q.F, q.Z].Nodup
 tT : RowN w q.T s.ty
 tS : RowN w q.S s.sl
 tF : RowN w q.F s.ff
 tZ : RowN w q.Z s.sz
 lT : s.ty.length = q.m
 lS : s.sl.length = q.m
 lF : s.ff.length = q.m
 lZ : s.sz.length = q.k
 own : w.ownsRow 0 46 3 v s.V.length (flatV s.V)
 vb : ∀ g, v.ownBlock = some g → R g ∧ ¬ g ∈ [q.P, q.T, q.S, q.F, q.Z]
 tree : TreeR 0 w0 q.A q.A' nd fs
 up : Keeps (fun b => w0.heap.size ≤ b) w0 w
 hi : ∀ b, R b → w0.heap.size ≤ b
def Ck (w : World) (q : CkQ) (nd : List Nd) (fs : List Fnc) (w0 : World) (R : Nat → Prop) (s : CkS) : Prop := ∃ v, CkX w q nd fs w0 R s v
section
variable {w w' : World} {q : CkQ} {nd : List Nd} {fs : List Fnc} {w0 : World} {R : Nat → Prop} {s : CkS} {v : Value}
theorem CkX.keepR (h : CkX w q nd fs w0 R s v) {S : Nat → Prop} (k : Keeps S w w') (hS : ∀ b, R b → ¬ S b) (hSP : ∀ b, S b → w0.heap.size ≤ b) : CkX w' q nd fs w0 R s v := by
 have hP := hS _ h.rP
 have hlt := h.lt _ h.rP
 exact { h with
  c0 := (k.cell hlt hP).trans h.c0, c1 := (k.cell hlt hP).trans h.c1, c2 := (k.cell hlt hP).trans h.c2, c3 := (k.cell hlt hP).trans h.c3, c4 := (k.cell hlt hP).trans h.c4, c5 := (k.cell hlt hP).trans h.c5, c6 := (k.cell hlt hP).trans h.c6, c7 := (k.cell hlt hP).trans h.c7, c8 := (k.cell hlt hP).trans h.c8, c9 := (k.cell hlt hP).trans h.c9,
  fz := fun j => (k.frozen hlt hP).trans (h.fz j), lt := fun b hb => Nat.lt_of_lt_of_le (h.lt b hb) k.size,
  tT := h.tT.keepR (h.lt _ h.rT) k (hS _ h.rT), tS := h.tS.keepR (h.lt _ h.rS) k (hS _ h.rS), tF := h.tF.keepR (h.lt _ h.rF) k (hS _ h.rF), tZ := h.tZ.keepR (h.lt _ h.rZ) k (hS _ h.rZ),
  own := ownsRow_keep h.own (fun g hg => k.block g (own_ltk h.own hg) (hS g (h.vb g hg).1)), up := h.up.trans k (fun b _ hb => hSP b hb) }
theorem Ck.keepR (h : Ck w q nd fs w0 R s) {S : Nat → Prop} (k : Keeps S w w') (hS : ∀ b, R b → ¬ S b) (hSP : ∀ b, S b → w0.heap.size ≤ b) : Ck w' q nd fs w0 R s := by
 obtain ⟨v, h⟩ := h
 exact ⟨v, h.keepR k hS hSP⟩
theorem Ck.keep (h : Ck w q nd fs w0 R s) (k : Keeps (fun _ => False) w w') : Ck w' q nd fs w0 R s := h.keepR k (fun _ _ h => h) (fun _ h => h.elim)
theorem Ck.lt (h : Ck w q nd fs w0 R s) : ∀ b, R b → b < w.heap.size := by
 obtain ⟨v, h⟩ := h
 exact h.lt
theorem Ck.new (h : Ck w q nd fs w0 R s) : ¬ R w.heap.size := fun hr => Nat.lt_irrefl _ (h.lt _ hr)
theorem Ck.treeR (h : Ck w q nd fs w0 R s) : TreeR 0 w q.A q.A' nd fs := by
 obtain ⟨v, h⟩ := h
 exact h.tree.keepHi h.up
theorem one_block (w : World) (X j : Nat) (u : Value) : Keeps (fun b => b = X) w (w.setCell ⟨X, j, none⟩ u) := (Keeps.refl (fun b => b = X) w).setCell (p := ⟨X, j, none⟩) (fun _ => rfl) u
/-- A row's number is written: types, slots, functions, sizes. -/
theorem Ck.setT (h : Ck w q nd fs w0 R s) (j : Nat) (x : Int) (hj : j < q.m) : Ck (w.setCell ⟨q.T, j, none⟩ (.int .i64 x)) q nd fs w0 R { s with ty := s.ty.set j x } ∧ Fr R w R (w.setCell ⟨q.T, j, none⟩ (.int .i64 x)) := by
 obtain ⟨v, h⟩ := h
 have k := one_block w q.T j (.int .i64 x)
 have hd := h.dist
 simp only [List.nodup_cons, List.mem_cons, List.not_mem_nil, or_false, not_or] at hd
 obtain ⟨⟨d1, d2, d3, d4⟩, ⟨d5, d6, d7⟩, ⟨d8, d9⟩, d10, _⟩ := hd
 have hlt := h.lt _ h.rP
 have nP : ¬ q.P = q.T := d1
 refine ⟨⟨v, { h with
  c0 := (k.cell hlt nP).trans h.c0, c1 := (k.cell hlt nP).trans h.c1, c2 := (k.cell hlt nP).trans h.c2, c3 := (k.cell hlt nP).trans h.c3, c4 := (k.cell hlt nP).trans h.c4, c5 := (k.cell hlt nP).trans h.c5, c6 := (k.cell hlt nP).trans h.c6, c7 := (k.cell hlt nP).trans h.c7, c8 := (k.cell hlt nP).trans h.c8, c9 := (k.cell hlt nP).trans h.c9,
  fz := fun j => (k.frozen hlt nP).trans (h.fz j), lt := fun b hb => Nat.lt_of_lt_of_le (h.lt b hb) k.size,
  tT := h.tT.set j x (by rw [h.lT]; exact hj), tS := h.tS.keepR (h.lt _ h.rS) k (fun e => d5 e.symm), tF := h.tF.keepR (h.lt _ h.rF) k (fun e => d6 e.symm), tZ := h.tZ.keepR (h.lt _ h.rZ) k (fun e => d7 e.symm), lT := by rw [List.length_set]; exact h.lT,
  own := ownsRow_keep h.own (fun g hg => k.block g (own_ltk h.own hg) (fun e => (h.vb g hg).2 (by have e : g = q.T := e; rw [e]; simp))), up := h.up.trans k (fun b _ e => by have e : b = q.T := e; have := h.hi _ h.rT; omega) }⟩, ⟨k.mono (fun b _ e => by have e : b = q.T := e; rw [e]; exact h.rT), fun _ _ h => h⟩⟩
theorem Ck.setS (h : Ck w q nd fs w0 R s) (j : Nat) (x : Int) (hj : j < q.m) : Ck (w.setCell ⟨q.S, j, none⟩ (.int .i64 x)) q nd fs w0 R { s with sl := s.sl.set j x } ∧ Fr R w R (w.setCell ⟨q.S, j, none⟩ (.int .i64 x)) := by
 obtain ⟨v, h⟩ := h
 have k := one_block w q.S j (.int .i64 x)
 have hd := h.dist
 simp only [List.nodup_cons, List.mem_cons, List.not_mem_nil, or_false, not_or] at hd
 obtain ⟨⟨d1, d2, d3, d4⟩, ⟨d5, d6, d7⟩, ⟨d8, d9⟩, d10, _⟩ := hd
 have hlt := h.lt _ h.rP
 have nP : ¬ q.P = q.S := d2
 refine ⟨⟨v, { h with
  c0 := (k.cell hlt nP).trans h.c0, c1 := (k.cell hlt nP).trans h.c1, c2 := (k.cell hlt nP).trans h.c2, c3 := (k.cell hlt nP).trans h.c3, c4 := (k.cell hlt nP).trans h.c4, c5 := (k.cell hlt nP).trans h.c5, c6 := (k.cell hlt nP).trans h.c6, c7 := (k.cell hlt nP).trans h.c7, c8 := (k.cell hlt nP).trans h.c8, c9 := (k.cell hlt nP).trans h.c9,
  fz := fun j => (k.frozen hlt nP).trans (h.fz j), lt := fun b hb => Nat.lt_of_lt_of_le (h.lt b hb) k.size,
  tS := h.tS.set j x (by rw [h.lS]; exact hj), tT := h.tT.keepR (h.lt _ h.rT) k (fun e => d5 e), tF := h.tF.keepR (h.lt _ h.rF) k (fun e => d8 e.symm), tZ := h.tZ.keepR (h.lt _ h.rZ) k (fun e => d9 e.symm), lS := by rw [List.length_set]; exact h.lS,
  own := ownsRow_keep h.own (fun g hg => k.block g (own_ltk h.own hg) (fun e => (h.vb g hg).2 (by have e : g = q.S := e; rw [e]; simp))), up := h.up.trans k (fun b _ e => by have e : b = q.S := e; have := h.hi _ h.rS; omega) }⟩, ⟨k.mono (fun b _ e => by have e : b = q.S := e; rw [e]; exact h.rS), fun _ _ h => h⟩⟩
theorem Ck.setF (h : Ck w q nd fs w0 R s) (j : Nat) (x : Int) (hj : j < q.m) : Ck (w.setCell ⟨q.F, j, none⟩ (.int .i64 x)) q nd fs w0 R { s with ff := s.ff.set j x } ∧ Fr R w R (w.setCell ⟨q.F, j, none⟩ (.int .i64 x)) := by
 obtain ⟨v, h⟩ := h
 have k := one_block w q.F j (.int .i64 x)
 have hd := h.dist
 simp only [List.nodup_cons, List.mem_cons, List.not_mem_nil, or_false, not_or] at hd
 obtain ⟨⟨d1, d2, d3, d4⟩, ⟨d5, d6, d7⟩, ⟨d8, d9⟩, d10, _⟩ := hd
 have hlt := h.lt _ h.rP
 have nP : ¬ q.P = q.F := d3
 refine ⟨⟨v, { h with
  c0 := (k.cell hlt nP).trans h.c0, c1 := (k.cell hlt nP).trans h.c1, c2 := (k.cell hlt nP).trans h.c2, c3 := (k.cell hlt nP).trans h.c3, c4 := (k.cell hlt nP).trans h.c4, c5 := (k.cell hlt nP).trans h.c5, c6 := (k.cell hlt nP).trans h.c6, c7 := (k.cell hlt nP).trans h.c7, c8 := (k.cell hlt nP).trans h.c8, c9 := (k.cell hlt nP).trans h.c9,
  fz := fun j => (k.frozen hlt nP).trans (h.fz j), lt := fun b hb => Nat.lt_of_lt_of_le (h.lt b hb) k.size,
  tF := h.tF.set j x (by rw [h.lF]; exact hj), tT := h.tT.keepR (h.lt _ h.rT) k (fun e => d6 e), tS := h.tS.keepR (h.lt _ h.rS) k (fun e => d8 e), tZ := h.tZ.keepR (h.lt _ h.rZ) k (fun e => d10 e.symm), lF := by rw [List.length_set]; exact h.lF,
  own := ownsRow_keep h.own (fun g hg => k.block g (own_ltk h.own hg) (fun e => (h.vb g hg).2 (by have e : g = q.F := e; rw [e]; simp))), up := h.up.trans k (fun b _ e => by have e : b = q.F := e; have := h.hi _ h.rF; omega) }⟩, ⟨k.mono (fun b _ e => by have e : b = q.F := e; rw [e]; exact h.rF), fun _ _ h => h⟩⟩
theorem Ck.setZ (h : Ck w q nd fs w0 R s) (j : Nat) (x : Int) (hj : j < q.k) : Ck (w.setCell ⟨q.Z, j, none⟩ (.int .i64 x)) q nd fs w0 R { s with sz := s.sz.set j x } ∧ Fr R w R (w.setCell ⟨q.Z, j, none⟩ (.int .i64 x)) := by
 obtain ⟨v, h⟩ := h
 have k := one_block w q.Z j (.int .i64 x)
 have hd := h.dist
 simp only [List.nodup_cons, List.mem_cons, List.not_mem_nil, or_false, not_or] at hd
 obtain ⟨⟨d1, d2, d3, d4⟩, ⟨d5, d6, d7⟩, ⟨d8, d9⟩, d10, _⟩ := hd
 have hlt := h.lt _ h.rP
 have nP : ¬ q.P = q.Z := d4
 refine ⟨⟨v, { h with
  c0 := (k.cell hlt nP).trans h.c0, c1 := (k.cell hlt nP).trans h.c1, c2 := (k.cell hlt nP).trans h.c2, c3 := (k.cell hlt nP).trans h.c3, c4 := (k.cell hlt nP).trans h.c4, c5 := (k.cell hlt nP).trans h.c5, c6 := (k.cell hlt nP).trans h.c6, c7 := (k.cell hlt nP).trans h.c7, c8 := (k.cell hlt nP).trans h.c8, c9 := (k.cell hlt nP).trans h.c9,
  fz := fun j => (k.frozen hlt nP).trans (h.fz j), lt := fun b hb => Nat.lt_of_lt_of_le (h.lt b hb) k.size,
  tZ := h.tZ.set j x (by rw [h.lZ]; exact hj), tT := h.tT.keepR (h.lt _ h.rT) k (fun e => d7 e), tS := h.tS.keepR (h.lt _ h.rS) k (fun e => d9 e), tF := h.tF.keepR (h.lt _ h.rF) k (fun e => d10 e), lZ := by rw [List.length_set]; exact h.lZ,
  own := ownsRow_keep h.own (fun g hg => k.block g (own_ltk h.own hg) (fun e => (h.vb g hg).2 (by have e : g = q.Z := e; rw [e]; simp))), up := h.up.trans k (fun b _ e => by have e : b = q.Z := e; have := h.hi _ h.rZ; omega) }⟩, ⟨k.mono (fun b _ e => by have e : b = q.Z := e; rw [e]; exact h.rZ), fun _ _ h => h⟩⟩
/-- A cell of the checker's own block is written: the function, the place and the error, or the variables. -/
theorem CkX.setP (h : CkX w q nd fs w0 R s v) {R' : Nat → Prop} {s' : CkS} {v' : Value} (j : Nat) (x : Value)
  (e7 : (w.setCell ⟨q.P, j, none⟩ x).cell? ⟨q.P, 7, none⟩ = some (.int .i64 s'.fn)) (e8 : (w.setCell ⟨q.P, j, none⟩ x).cell? ⟨q.P, 8, none⟩ = some (.int .i64 s'.bad)) (e9 : (w.setCell ⟨q.P, j, none⟩ x).cell? ⟨q.P, 9, none⟩ = some (.int .i64 s'.e)) (e6 : (w.setCell ⟨q.P, j, none⟩ x).cell? ⟨q.P, 6, none⟩ = some v')
  (hj : 6 ≤ j) (r1 : s'.ty = s.ty) (r2 : s'.sl = s.sl) (r3 : s'.ff = s.ff) (r4 : s'.sz = s.sz) (ho : w.ownsRow 0 46 3 v' s'.V.length (flatV s'.V)) (hvb : ∀ g, v'.ownBlock = some g → R g ∧ ¬ g ∈ [q.P, q.T, q.S, q.F, q.Z]) : CkX (w.setCell ⟨q.P, j, none⟩ x) q nd fs w0 R s' v' ∧ Fr R w R (w.setCell ⟨q.P, j, none⟩ x) := by
 have k := one_block w q.P j x
 have hd := h.dist
 simp only [List.nodup_cons, List.mem_cons, List.not_mem_nil, or_false, not_or] at hd
 obtain ⟨⟨d1, d2, d3, d4⟩, ⟨d5, d6, d7⟩, ⟨d8, d9⟩, d10, _⟩ := hd
 have oth : ∀ i u, i < 6 → w.cell? ⟨q.P, i, none⟩ = some u → (w.setCell ⟨q.P, j, none⟩ x).cell? ⟨q.P, i, none⟩ = some u := fun i u hi hx => (cell_other w j i _ (.inl (by omega))).trans hx
 refine ⟨{
  c0 := oth _ _ (by omega) h.c0, c1 := oth _ _ (by omega) h.c1, c2 := oth _ _ (by omega) h.c2, c3 := oth _ _ (by omega) h.c3, c4 := oth _ _ (by omega) h.c4, c5 := oth _ _ (by omega) h.c5, c6 := e6, c7 := e7, c8 := e8, c9 := e9,
  fz := fun i => (World.frozen?_setCell w _ _ _).trans (h.fz i), hm := h.hm, hk := h.hk, lt := fun b hb => Nat.lt_of_lt_of_le (h.lt b hb) k.size, rP := h.rP, rT := h.rT, rS := h.rS, rF := h.rF, rZ := h.rZ, dist := h.dist,
  tT := by rw [r1]; exact h.tT.keepR (h.lt _ h.rT) k (fun e => d1 (Eq.symm e)), tS := by rw [r2]; exact h.tS.keepR (h.lt _ h.rS) k (fun e => d2 (Eq.symm e)), tF := by rw [r3]; exact h.tF.keepR (h.lt _ h.rF) k (fun e => d3 (Eq.symm e)), tZ := by rw [r4]; exact h.tZ.keepR (h.lt _ h.rZ) k (fun e => d4 (Eq.symm e)),
  lT := by rw [r1]; exact h.lT, lS := by rw [r2]; exact h.lS, lF := by rw [r3]; exact h.lF, lZ := by rw [r4]; exact h.lZ,
  own := ownsRow_keep ho (fun g hg => k.block g (own_ltk ho hg) (fun e => (hvb g hg).2 (by have e : g = q.P := e; rw [e]; simp))), vb := hvb, tree := h.tree, up := h.up.trans k (fun b _ e => by have e : b = q.P := e; have := h.hi _ h.rP; omega), hi := h.hi }, ⟨k.mono (fun b _ e => by have e : b = q.P := e; rw [e]; exact h.rP), fun _ _ h => h⟩⟩
theorem cell_at (w : World) (P j : Nat) (x u : Value) (i : Nat) (h : w.cell? ⟨P, i, none⟩ = some u) : (w.setCell ⟨P, j, none⟩ x).cell? ⟨P, i, none⟩ = some (if j = i then x else u) := by
 by_cases e : j = i
 ·subst e; rw [if_pos rfl]; exact cell_same w P j _ u h
 ·rw [if_neg e]; exact (cell_other w j i _ (.inl e)).trans h
theorem Ck.setBad (h : Ck w q nd fs w0 R s) (z : Int) : Ck (w.setCell ⟨q.P, 8, none⟩ (.int .i64 z)) q nd fs w0 R { s with bad := z } ∧ Fr R w R (w.setCell ⟨q.P, 8, none⟩ (.int .i64 z)) := by
 obtain ⟨v, h⟩ := h
 have g := h.setP (s' := { s with bad := z }) (v' := v) 8 (.int .i64 z) (cell_at w q.P 8 _ _ 7 h.c7) (cell_at w q.P 8 _ _ 8 h.c8) (cell_at w q.P 8 _ _ 9 h.c9) (cell_at w q.P 8 _ _ 6 h.c6) (by omega) rfl rfl rfl rfl h.own h.vb (R' := R)
 exact ⟨⟨v, g.1⟩, g.2⟩
theorem Ck.setE (h : Ck w q nd fs w0 R s) (z : Int) : Ck (w.setCell ⟨q.P, 9, none⟩ (.int .i64 z)) q nd fs w0 R { s with e := z } ∧ Fr R w R (w.setCell ⟨q.P, 9, none⟩ (.int .i64 z)) := by
 obtain ⟨v, h⟩ := h
 have g := h.setP (s' := { s with e := z }) (v' := v) 9 (.int .i64 z) (cell_at w q.P 9 _ _ 7 h.c7) (cell_at w q.P 9 _ _ 8 h.c8) (cell_at w q.P 9 _ _ 9 h.c9) (cell_at w q.P 9 _ _ 6 h.c6) (by omega) rfl rfl rfl rfl h.own h.vb (R' := R)
 exact ⟨⟨v, g.1⟩, g.2⟩
theorem Ck.setFn (h : Ck w q nd fs w0 R s) (z : Int) : Ck (w.setCell ⟨q.P, 7, none⟩ (.int .i64 z)) q nd fs w0 R { s with fn := z } ∧ Fr R w R (w.setCell ⟨q.P, 7, none⟩ (.int .i64 z)) := by
 obtain ⟨v, h⟩ := h
 have g := h.setP (s' := { s with fn := z }) (v' := v) 7 (.int .i64 z) (cell_at w q.P 7 _ _ 7 h.c7) (cell_at w q.P 7 _ _ 8 h.c8) (cell_at w q.P 7 _ _ 9 h.c9) (cell_at w q.P 7 _ _ 6 h.c6) (by omega) rfl rfl rfl rfl h.own h.vb (R' := R)
 exact ⟨⟨v, g.1⟩, g.2⟩
/-- The variables are another row. -/
theorem CkX.setV (h : CkX w q nd fs w0 R s v) (V' : List Vb) (v' : Value) (ho : w.ownsRow 0 46 3 v' V'.length (flatV V')) (hvb : ∀ g, v'.ownBlock = some g → R g ∧ ¬ g ∈ [q.P, q.T, q.S, q.F, q.Z]) : CkX (w.setCell ⟨q.P, 6, none⟩ v') q nd fs w0 R { s with V := V' } v' ∧ Fr R w R (w.setCell ⟨q.P, 6, none⟩ v') :=
 h.setP (s' := { s with V := V' }) (v' := v') 6 v' (cell_at w q.P 6 _ _ 7 h.c7) (cell_at w q.P 6 _ _ 8 h.c8) (cell_at w q.P 6 _ _ 9 h.c9) (cell_at w q.P 6 _ _ 6 h.c6) (by omega) rfl rfl rfl rfl ho hvb (R' := R)
end
end Go.Proofs.YtbhpnioggpgbhaaGreatDoor

namespace Go.Proofs.YtbhpnioggpgbhaaGreatDoor
open Go Go.RowKit Go.Shelf
set_option linter.unusedVariables false
set_option linter.unusedSimpArgs false
/-- The first function of a name. -/
def idxF (fs : List Fnc) (x : List UInt8) : Int := match fs.findIdx? (fun f => decide (f.s = x)) with | some i => (i : Int) | none => -1
theorem idx_found {fs : List Fnc} {x : List UInt8} {i : Nat} (hi : i < fs.length) (h : (fs[i]).s = x) (hn : ∀ j (hj : j < fs.length), j < i → (fs[j]).s ≠ x) : idxF fs x = (i : Int) := by
 unfold idxF
 have : fs.findIdx? (fun f => decide (f.s = x)) = some i := by
  rw [List.findIdx?_eq_some_iff_getElem]
  exact ⟨hi, by simpa using h, fun j hj => by simpa using hn j (by omega) hj⟩
 rw [this]
theorem idx_none {fs : List Fnc} {x : List UInt8} (hn : ∀ j (hj : j < fs.length), (fs[j]).s ≠ x) : idxF fs x = -1 := by
 unfold idxF
 have : fs.findIdx? (fun f => decide (f.s = x)) = none := by
  rw [List.findIdx?_eq_none_iff]
  intro f hf
  obtain ⟨j, hj, e⟩ := List.getElem_of_mem hf
  have := hn j hj
  rw [e] at this
  simpa using this
 rw [this]
theorem names_eq (a b : List UInt8) : ((ofL a).toList == (ofL b).toList) = decide (a = b) := by
 rw [word_beq, toList_data, ofL_list, ofL_list]
set_option maxRecDepth 100000 in
set_option maxHeartbeats 16000000 in
theorem pfun_any (nd : List Nd) (fs : List Fnc) (A A' : Option Addr) (m k c c' : Nat) (x : List UInt8) (hk : k = fs.length) (hk6 : k ≤ 1000) (w : World) (hT : TreeR 0 w A A' nd fs) : Calls Tryz.prog 45 #[.agg #[.slice A m c, .slice A' k c'], .string (ofL x)] w fun e w' => e = .returned (.int .i64 (idxF fs x)) ∧ Keeps (fun _ => False) w w' := by
 have HK := Lib.hid hk
 have HT := Lib.hid hT
 obtain ⟨SX, hSX⟩ : ∃ S, S = ofL x := ⟨_, rfl⟩
 have HSX := Lib.hid hSX
 rw [← hSX]
 clear hT hk hSX
 go_enter Tryz.func45, Tryz.ntmps45
 go_upto_region 2 with fail
 obtain ⟨w1, hw1⟩ : ∃ w1, w1 = w.alloc (.cells #[.slice A m c, .slice A' k c'] 27) := ⟨_, rfl⟩
 have ka := Keeps.one w (.cells #[.slice A m c, .slice A' k c'] 27)
 rw [← hw1] at ka ⊢
 generalize w.heap.size = P2
 have K1 := Lib.hid ka
 clear ka hw1
 go_loopg [5, 6, 10] (k + 1) (fun q s5 s6 s10 wr => ∃ i : Nat, s10 = .int .i64 i ∧ i + q = k + 1 ∧ i ≤ k ∧ (∀ j (hj : j < fs.length), j < i → (fs[j]).s ≠ x) ∧ Keeps (fun _ => False) w1 wr)
 case atStart => exact ⟨0, rfl, by omega, by omega, fun j _ h => by omega, Keeps.refl _ _⟩
 case round =>
  obtain ⟨i, rfl, hiq, hin1, hno, kr⟩ := hrel
  have KR := Lib.hid (K1.out.trans kr (fun _ _ h => h))
  have KR1 := Lib.hid kr
  have HIQ := Lib.hid hiq
  have HNO := Lib.hid hno
  have HTr := Lib.hid (HT.out.keep KR.out)
  clear hiq kr hno
  by_cases hin : i < k
  ·have hI : (i : Int) < (k : Int) := by omega
   have hdI : decide ((i : Int) < (k : Int)) = true := decide_eq_true hI
   have hi0 : (0 : Int) ≤ (i : Int) := by omega
   have wi : IntKind.i64.wrap ((i : Int) + 1) = (i : Int) + 1 := IntWalk.i64_in _ (by omega)
   have HIN := Lib.hid hin
   have hil : i < fs.length := by rw [← HK.out]; exact hin
   have HIL := Lib.hid hil
   obtain ⟨b, off, hA, hc⟩ := HTr.out.fnAt (by omega)
   obtain ⟨ap, cp, d0, d1, d2, d3, d4, -⟩ := hc i hil
   obtain ⟨SF, hSF⟩ : ∃ S, S = ofL (fs[i]).s := ⟨_, rfl⟩
   have hq := names_eq (fs[i]).s x
   rw [← hSF, ← HSX.out] at hq
   replace d0 : wr.cell? ⟨b, off + i * 5, none⟩ = some (.string SF) := by rw [hSF]; exact d0
   obtain ⟨bq, hbq⟩ : ∃ q : Bool, q = decide ((fs[i]).s = x) := ⟨_, rfl⟩
   rw [← hbq] at hq
   have HBQ := Lib.hid hbq
   generalize (fs[i]).ln = ln at d1
   generalize (fs[i]).ps.length = np at d2
   generalize (fs[i]).ret = rt at d3
   generalize (fs[i]).body = bd at d4
   subst hA
   clear hc hil hin hin1 hSF hbq
   go_upto_region 4 with fail
   obtain ⟨PF, hPF⟩ : ∃ X, X = wr.heap.size := ⟨_, rfl⟩
   obtain ⟨w2, hw2⟩ : ∃ w2, w2 = wr.alloc (.cells #[.string SF, .int .i64 ln, .slice ap np cp, .int .i64 rt, .int .i64 bd] 49) := ⟨_, rfl⟩
   have kb := Keeps.one wr (.cells #[.string SF, .int .i64 ln, .slice ap np cp, .int .i64 rt, .int .i64 bd] 49)
   have HF : Hid (Loc w2 (fun _ => False) PF [.string SF, .int .i64 ln, .slice ap np cp, .int .i64 rt, .int .i64 bd]) := Lib.hid (by rw [hw2, hPF]; exact Loc.new (fun h => h) [.string SF, .int .i64 ln, .slice ap np cp, .int .i64 rt, .int .i64 bd] 49)
   rw [← hPF]
   rw [← hw2] at kb ⊢
   have K2 := Lib.hid (KR.out.trans kb (fun _ _ h => h))
   have K21 := Lib.hid (KR1.out.trans kb (fun _ _ h => h))
   have f0 := HF.out.cells 0 _ rfl
   clear kb hw2 hPF d0 d1 d2 d3 d4 KR KR1
   cases bq with
   | true =>
    have HM : Hid (idxF fs x = (i : Int)) := Lib.hid (idx_found HIL.out (of_decide_eq_true HBQ.out.symm) HNO.out)
    go_wp2_with fail
    go_ret
    exact ⟨by (rw [HM.out]; first | done | rfl), K2.out⟩
   | false =>
    have HM : Hid (∀ j (hj : j < fs.length), j < i + 1 → (fs[j]).s ≠ x) := Lib.hid (fun j hj h => by
     by_cases e : j = i
     ·subst e; exact of_decide_eq_false HBQ.out.symm
     ·exact HNO.out j hj (by omega))
    go_wp2_with fail
    go_roundg (gk - 1)
    case measure => go_light; have h1 := HIQ.out; have h2 := HIN.out; omega
    case rel => exact ⟨i + 1, by go_num, by have h1 := HIQ.out; have h2 := HIN.out; go_light; omega, by have h2 := HIN.out; go_light; omega, HM.out, K21.out⟩
  ·obtain rfl : k = i := by omega
   have hI : ¬ (k : Int) < (k : Int) := by omega
   have hdI : decide ((k : Int) < (k : Int)) = false := decide_eq_false hI
   have HM : Hid (idxF fs x = -1) := Lib.hid (idx_none fun j hj => HNO.out j hj (by rw [HK.out]; exact hj))
   clear hin hin1
   go_wp2_with fail
   go_ret
   exact ⟨by (rw [HM.out]; first | done | rfl), KR.out⟩
/-- Whether what is below a node is a block. -/
def isBlkK (k : Int) (i : Int) : Bool := decide (i > 0) && ((k == 15) || (k == 16))
set_option maxRecDepth 100000 in
set_option maxHeartbeats 16000000 in
theorem pblk_any (k ln n i : Int) (s : ByteArray) (a : Option Addr) (l c : Nat) (w : World) : Calls Tryz.prog 102 #[.agg #[.int .i64 k, .int .i64 ln, .int .i64 n, .string s, .slice a l c], .int .i64 i] w fun e w' => e = .returned (.bool (isBlkK k i)) ∧ Keeps (fun _ => False) w w' := by
 have ka := Lib.hid (Keeps.one w (.cells #[.int .i64 k, .int .i64 ln, .int .i64 n, .string s, .slice a l c] 41))
 obtain ⟨b1, e1⟩ : ∃ b, b = decide (i > 0) := ⟨_, rfl⟩
 obtain ⟨b2, e2⟩ : ∃ b, b = (k == 15) := ⟨_, rfl⟩
 obtain ⟨b3, e3⟩ : ∃ b, b = (k == 16) := ⟨_, rfl⟩
 have hr : isBlkK k i = (b1 && (b2 || b3)) := by unfold isBlkK; rw [e1, e2, e3]
 rw [hr]
 clear hr
 have h1 : decide (i > 0) = b1 := e1.symm
 have h2 : (k == 15) = b2 := e2.symm
 have h3 : (k == 16) = b3 := e3.symm
 clear e1 e2 e3
 cases b1 <;> cases b2 <;> cases b3
 all_goals go_enter Tryz.func102, Tryz.ntmps102
 all_goals go_wp2_with fail
 all_goals go_ret
 all_goals exact ⟨rfl, ka.out⟩
set_option maxRecDepth 100000 in
set_option maxHeartbeats 16000000 in
theorem pboth_any (a b t : Int) (p q : Addr) (w : World) (hp : w.cell? p = some (.int .i64 a)) (hq : w.cell? q = some (.int .i64 b)) : Calls Tryz.prog 141 #[.int .i64 t, .pointer (some p), .pointer (some q)] w fun e w' => e = .returned (.bool ((a == t) && (b == t))) ∧ w' = w := by
 obtain ⟨b1, e1⟩ : ∃ b, b = (a == t) := ⟨_, rfl⟩
 obtain ⟨b2, e2⟩ : ∃ x, x = (b == t) := ⟨_, rfl⟩
 have h1 : (a == t) = b1 := e1.symm
 have h2 : (b == t) = b2 := e2.symm
 rw [h1, h2]
 clear e1 e2
 cases b1 <;> cases b2
 all_goals go_enter Tryz.func141, Tryz.ntmps141
 all_goals go_wp2_with fail
 all_goals go_ret
 all_goals exact ⟨rfl, rfl⟩
end Go.Proofs.YtbhpnioggpgbhaaGreatDoor

namespace Go.Proofs.YtbhpnioggpgbhaaGreatDoor
open Go Go.RowKit Go.Shelf
set_option linter.unusedVariables false
set_option linter.unusedSimpArgs false
/-- What find tells. -/
def findV (V : List Vb) (x : List UInt8) : Value := match lookV V x with
 | some v => .tuple #[.agg #[.string (ofL v.x), .int .i64 v.t, .int .i64 v.s], .bool true]
 | none => .tuple #[.agg #[.string (ofL []), .int .i64 0, .int .i64 0], .bool false]
theorem look_found {V : List Vb} {x : List UInt8} {i : Nat} (hi : i < V.length) (h : (V[i]).x = x) (hn : ∀ j (hj : j < V.length), j < i → (V[j]).x ≠ x) : lookV V x = some V[i] := by
 unfold lookV
 rw [List.find?_eq_some_iff_getElem]
 exact ⟨by simpa using h, i, hi, rfl, fun j hj => by simpa using hn j (by omega) hj⟩
theorem look_none {V : List Vb} {x : List UInt8} (hn : ∀ j (hj : j < V.length), (V[j]).x ≠ x) : lookV V x = none := by
 unfold lookV
 rw [List.find?_eq_none]
 intro v hv
 obtain ⟨j, hj, e⟩ := List.getElem_of_mem hv
 have := hn j hj
 rw [e] at this
 simpa using this
set_option maxRecDepth 100000 in
set_option maxHeartbeats 16000000 in
theorem pfind_any {w : World} {q : CkQ} {nd : List Nd} {fs : List Fnc} {w0 : World} {R : Nat → Prop} {s : CkS} (h : Ck w q nd fs w0 R s) (x : List UInt8) (hV : s.V.length ≤ 1000) : Calls Tryz.prog 46 #[.pointer (some ⟨q.P, 0, none⟩), .string (ofL x)] w fun e w' => e = .returned (findV s.V x) ∧ Keeps (fun _ => False) w w' := by
 obtain ⟨v, hx⟩ := h
 obtain ⟨A, c, rfl⟩ := own_formk hx.own
 have c6 := hx.c6
 have HRG := Lib.hid (own_rdG hx.own)
 obtain ⟨n, hn⟩ : ∃ n, n = s.V.length := ⟨_, rfl⟩
 rw [← hn] at c6 hV
 have HN := Lib.hid hn
 obtain ⟨SX, hSX⟩ : ∃ S, S = ofL x := ⟨_, rfl⟩
 have HSX := Lib.hid hSX
 rw [← hSX]
 generalize q.P = P at c6 ⊢
 generalize hVV : s.V = V at HRG HN ⊢
 clear hx hn hSX hVV
 go_enter Tryz.func46, Tryz.ntmps46
 go_upto_region 1 with fail
 obtain ⟨P4, hP4⟩ : ∃ X, X = w.heap.size := ⟨_, rfl⟩
 obtain ⟨w1, hw1⟩ : ∃ w1, w1 = w.alloc (.cells #[.string { data := #[] }, .int .i64 0, .int .i64 0] 46) := ⟨_, rfl⟩
 have ka := Keeps.one w (.cells #[.string { data := #[] }, .int .i64 0, .int .i64 0] 46)
 have HX1 : Hid (Loc w1 (fun _ => False) P4 [.string { data := #[] }, .int .i64 0, .int .i64 0]) := Lib.hid (by rw [hw1, hP4]; exact Loc.new (fun h => h) [.string { data := #[] }, .int .i64 0, .int .i64 0] 46)
 have HP4 := Lib.hid hP4
 rw [← hP4]
 rw [← hw1] at ka ⊢
 have K1 := Lib.hid ka
 have d6 := (ka.cell (cell_ltk c6) (fun h => h)).trans c6
 clear ka hw1 hP4 c6
 go_upto_region 2 with fail
 clear d6
 go_loopg [7, 13] (n + 1) (fun q s7 s13 wr => ∃ i : Nat, s13 = .int .i64 i ∧ i + q = n + 1 ∧ i ≤ n ∧ (∀ j (hj : j < V.length), j < i → (V[j]).x ≠ x) ∧ Keeps (fun _ => False) w1 wr)
 case atStart => exact ⟨0, rfl, by omega, by omega, fun j _ h => by omega, Keeps.refl _ _⟩
 case round =>
  obtain ⟨i, rfl, hiq, hin1, hno, kr⟩ := hrel
  have KR := Lib.hid (K1.out.trans kr (fun _ _ h => h))
  have KR1 := Lib.hid kr
  have HIQ := Lib.hid hiq
  have HNO := Lib.hid hno
  have HXr := Lib.hid (HX1.out.keeps kr)
  have HRr := Lib.hid (HRG.out.keep KR.out (fun _ _ _ _ h => h))
  clear hiq kr hno
  by_cases hin : i < n
  ·have hI : (i : Int) < (n : Int) := by omega
   have hdI : decide ((i : Int) < (n : Int)) = true := decide_eq_true hI
   have hi0 : (0 : Int) ≤ (i : Int) := by omega
   have wi : IntKind.i64.wrap ((i : Int) + 1) = (i : Int) + 1 := IntWalk.i64_in _ (by omega)
   have HIN := Lib.hid hin
   have hil : i < V.length := by rw [← HN.out]; exact hin
   have HIL := Lib.hid hil
   obtain ⟨b, off, hA, hc⟩ := HRr.out (by rw [flatV_length]; omega)
   obtain ⟨g0, g1, g2⟩ := flatV_at V i V[i] (List.getElem?_eq_getElem hil)
   have v0 := hc _ _ g0
   have v1 := hc _ _ g1
   have v2 := hc _ _ g2
   obtain ⟨SF, hSF⟩ : ∃ S, S = ofL (V[i]).x := ⟨_, rfl⟩
   have hq := names_eq (V[i]).x x
   rw [← hSF, ← HSX.out] at hq
   replace v0 : wr.cell? ⟨b, off + i * 3, none⟩ = some (.string SF) := by rw [hSF]; exact v0
   obtain ⟨bq, hbq⟩ : ∃ q : Bool, q = decide ((V[i]).x = x) := ⟨_, rfl⟩
   rw [← hbq] at hq
   have HBQ := Lib.hid hbq
   have HSF := Lib.hid hSF
   obtain ⟨vt, hvt⟩ : ∃ t, t = (V[i]).t := ⟨_, rfl⟩
   obtain ⟨vs, hvs⟩ : ∃ t, t = (V[i]).s := ⟨_, rfl⟩
   replace v1 : wr.cell? ⟨b, off + i * 3 + 1, none⟩ = some (.int .i64 vt) := by rw [hvt]; exact v1
   replace v2 : wr.cell? ⟨b, off + i * 3 + 2, none⟩ = some (.int .i64 vs) := by rw [hvs]; exact v2
   have HVT := Lib.hid hvt
   have HVS := Lib.hid hvs
   subst hA
   clear hc hil hin hin1 hSF hbq g0 g1 g2 hvt hvs
   go_upto_region 4 with fail
   obtain ⟨PF, hPF⟩ : ∃ X, X = wr.heap.size := ⟨_, rfl⟩
   obtain ⟨w2, hw2⟩ : ∃ w2, w2 = wr.alloc (.cells #[.string SF, .int .i64 vt, .int .i64 vs] 46) := ⟨_, rfl⟩
   have kb := Keeps.one wr (.cells #[.string SF, .int .i64 vt, .int .i64 vs] 46)
   have HF : Hid (Loc w2 (fun _ => False) PF [.string SF, .int .i64 vt, .int .i64 vs]) := Lib.hid (by rw [hw2, hPF]; exact Loc.new (fun h => h) [.string SF, .int .i64 vt, .int .i64 vs] 46)
   have HX2 := Lib.hid (HXr.out.keeps kb)
   have HNE : Hid (P4 ≠ PF) := Lib.hid (by have := HXr.out.lt; omega)
   rw [← hPF]
   rw [← hw2] at kb ⊢
   have K2 := Lib.hid (KR.out.trans kb (fun _ _ h => h))
   have K21 := Lib.hid (KR1.out.trans kb (fun _ _ h => h))
   have f0 := HF.out.cells 0 _ rfl
   have f1 := HF.out.cells 1 _ rfl
   have f2 := HF.out.cells 2 _ rfl
   rw [← hw2] at HX2
   clear kb hw2 hPF v0 v1 v2 KR KR1
   cases bq with
   | true =>
    have HM : Hid (findV V x = .tuple #[.agg #[.string SF, .int .i64 vt, .int .i64 vs], .bool true]) := Lib.hid (by
     unfold findV
     rw [look_found HIL.out (of_decide_eq_true HBQ.out.symm) HNO.out]
     show Value.tuple #[.agg #[.string (ofL (V[i]).x), .int .i64 (V[i]).t, .int .i64 (V[i]).s], .bool true] = _
     rw [← HSF.out, ← HVT.out, ← HVS.out])
    have x0 := HX2.out.cells 0 _ rfl
    have x1 := HX2.out.cells 1 _ rfl
    have x2 := HX2.out.cells 2 _ rfl
    have z0 := HX2.out.fz 0
    have z1 := HX2.out.fz 1
    have z2 := HX2.out.fz 2
    have FIN : Hid (∀ w', Keeps (fun p => P4 ≤ p) w2 w' → Keeps (fun _ => False) w w') := Lib.hid (fun w' k => kback ((K2.out.mono (T := fun p => P4 ≤ p) (fun _ _ h => h.elim)).trans k (fun _ _ h => h)) HP4.out)
    go_wp2_with fail
    (try simp only [Exit.inBlock, Exit.then])
    refine bodyPost_ret (v := .tuple #[.agg #[.string SF, .int .i64 vt, .int .i64 vs], .bool true]) ?_ rfl ?_
    ·rw [results_cell_tmp rfl]
     go_simp
    ·exact ⟨by (rw [HM.out]; first | done | rfl), FIN.out _ ((((Keeps.refl (fun p => P4 ≤ p) w2).setCell (p := ⟨P4, 0, none⟩) (fun _ => Nat.le_refl P4) _).setCell (p := ⟨P4, 1, none⟩) (fun _ => Nat.le_refl P4) _).setCell (p := ⟨P4, 2, none⟩) (fun _ => Nat.le_refl P4) _)⟩
   | false =>
    have HM : Hid (∀ j (hj : j < V.length), j < i + 1 → (V[j]).x ≠ x) := Lib.hid (fun j hj h => by
     by_cases e : j = i
     ·subst e; exact of_decide_eq_false HBQ.out.symm
     ·exact HNO.out j hj (by omega))
    go_wp2_with fail
    go_roundg (gk - 1)
    case measure => go_light; have h1 := HIQ.out; have h2 := HIN.out; omega
    case rel => exact ⟨i + 1, by go_num, by have h1 := HIQ.out; have h2 := HIN.out; go_light; omega, by have h2 := HIN.out; go_light; omega, HM.out, K21.out⟩
  ·obtain rfl : n = i := by omega
   have hI : ¬ (n : Int) < (n : Int) := by omega
   have hdI : decide ((n : Int) < (n : Int)) = false := decide_eq_false hI
   have HM : Hid (findV V x = .tuple #[.agg #[.string { data := #[] }, .int .i64 0, .int .i64 0], .bool false]) := Lib.hid (by unfold findV; rw [look_none fun j hj => HNO.out j hj (by rw [HN.out]; exact hj)]; rfl)
   have x0 := HXr.out.cells 0 _ rfl
   have x1 := HXr.out.cells 1 _ rfl
   have x2 := HXr.out.cells 2 _ rfl
   have z0 := HXr.out.fz 0
   have z1 := HXr.out.fz 1
   have z2 := HXr.out.fz 2
   have FIN : Hid (∀ w', Keeps (fun p => P4 ≤ p) wr w' → Keeps (fun _ => False) w w') := Lib.hid (fun w' k => kback ((KR.out.mono (T := fun p => P4 ≤ p) (fun _ _ h => h.elim)).trans k (fun _ _ h => h)) HP4.out)
   clear hin hin1
   go_wp2_with fail
   (try simp only [Exit.inBlock, Exit.then])
   refine bodyPost_ret (v := .tuple #[.agg #[.string { data := #[] }, .int .i64 0, .int .i64 0], .bool false]) ?_ rfl ?_
   ·rw [results_cell_tmp rfl]
    go_simp
   ·exact ⟨by (rw [HM.out]; first | done | rfl), FIN.out _ ((((Keeps.refl (fun p => P4 ≤ p) wr).setCell (p := ⟨P4, 0, none⟩) (fun _ => Nat.le_refl P4) _).setCell (p := ⟨P4, 1, none⟩) (fun _ => Nat.le_refl P4) _).setCell (p := ⟨P4, 2, none⟩) (fun _ => Nat.le_refl P4) _)⟩
set_option maxRecDepth 100000 in
set_option maxHeartbeats 16000000 in
theorem pfail_any {w : World} {q : CkQ} {nd : List Nd} {fs : List Fnc} {w0 : World} {R : Nat → Prop} {s : CkS} (h : Ck w q nd fs w0 R s) (a z : Int) : Calls Tryz.prog 47 #[.pointer (some ⟨q.P, 0, none⟩), .int .i64 a, .int .i64 z] w fun e w' => e = .returned (.bool false) ∧ Ck w' q nd fs w0 R { s with bad := a, e := z } ∧ Fr R w R w' := by
 obtain ⟨h1, f1⟩ := h.setBad a
 obtain ⟨h2, f2⟩ := h1.setE z
 have HC := Lib.hid h2
 have HFR := Lib.hid (f1.trans f2)
 obtain ⟨v, hx⟩ := h
 have c8 := hx.c8
 have c9 := hx.c9
 have z8 := hx.fz 8
 have z9 := hx.fz 9
 generalize hP : q.P = P at c8 c9 z8 z9 HC HFR ⊢
 clear hx h1 f1 h2 f2 hP
 go_enter Tryz.func47, Tryz.ntmps47
 go_wp2_with fail
 go_ret
 exact ⟨rfl, HC.out, HFR.out⟩
end Go.Proofs.YtbhpnioggpgbhaaGreatDoor
