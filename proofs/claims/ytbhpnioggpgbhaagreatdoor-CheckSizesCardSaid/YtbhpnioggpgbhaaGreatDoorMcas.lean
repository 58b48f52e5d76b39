/-
 Layer 2: what a lexer's tokens are like. Written by an AI agent.
 Layer 2: a tree in memory. Written by an AI agent.
 Layer 2: All: an error of the lexer. Written by an AI agent.
-/
import Derived.Test.YtbhpnioggpgbhaaGreatDoorMcar
namespace Go.Proofs.YtbhpnioggpgbhaaGreatDoor
open Go.RowKit Go.Shelf
set_option linter.unusedVariables false
set_option linter.unusedSimpArgs false
/-- A token that is not the end. -/
def TokIn (m : Nat) (t : Tok) : Prop := t.k ≠ 0 ∧ (t.k = 1 → t.x ≠ [] ∧ (∀ c ∈ t.x, dig c = true) ∧ numV t.x ≤ 9223372036854775807) ∧ t.x.length ≤ m ∧ t.p ≤ m
def TokL (m : Nat) (T : List Tok) : Prop := ∃ I e, T = I ++ [e] ∧ e.k = 0 ∧ e.x = [] ∧ e.p ≤ m ∧ ∀ t ∈ I, TokIn m t
theorem first_tok (l : List UInt8) (h : (firstL l).2.2 = 0) (hl : l ≠ []) : (firstL l).1 ≠ 0 ∧ ((firstL l).1 = 1 → saidL (firstL l).1 (l.take (firstL l).2.1) ≠ [] ∧ (∀ c ∈ saidL (firstL l).1 (l.take (firstL l).2.1), dig c = true) ∧ numV (saidL (firstL l).1 (l.take (firstL l).2.1)) ≤ 9223372036854775807) := by
 obtain ⟨c, r, rfl⟩ := List.exists_cons_of_ne_nil hl
 rw [firstL_cons] at h ⊢
 by_cases h1 : dig c = true
 ·rw [if_pos h1] at h ⊢
  have hr : runL dig (c :: r) = runL dig r + 1 := by show (if dig c then _ else 0) = _; rw [if_pos h1]
  unfold numberL at h ⊢
  split at h
  ·rename_i hc
   rw [if_pos hc]
   refine ⟨by simp, fun _ => ?_⟩
   show saidL 1 _ ≠ [] ∧ _
   have e : saidL 1 ((c :: r).take (runL dig (c :: r))) = (c :: r).take (runL dig (c :: r)) := if_neg (by decide)
   rw [show (((1 : Nat), runL dig (c :: r), (0 : Nat)) : Nat × Nat × Nat).2.1 = runL dig (c :: r) from rfl, show (((1 : Nat), runL dig (c :: r), (0 : Nat)) : Nat × Nat × Nat).1 = 1 from rfl, e]
   refine ⟨?_, runL_all dig (c :: r), hc.1⟩
   rw [hr]
   simp
  ·cases h
 ·rw [if_neg h1] at h ⊢
  by_cases h2 : ltr c = true
  ·rw [if_pos h2] at h ⊢
   unfold nameL at h ⊢
   split
   ·exact ⟨by simp, fun h => by simp at h⟩
   ·rename_i hw
    rw [if_neg hw] at h
    split
    ·rename_i h8
     rw [if_pos h8] at h
     cases h
    ·exact ⟨by simp, fun h => by simp at h⟩
  ·rw [if_neg h2] at h ⊢
   by_cases h3 : c = 34
   ·rw [if_pos h3] at h ⊢
    unfold textL at h ⊢
    split
    ·rename_i hw
     rw [if_pos hw] at h
     split
     ·rename_i h8
      rw [if_pos h8] at h
      cases h
     ·exact ⟨by simp, fun h => by simp at h⟩
    ·rename_i hw
     rw [if_neg hw] at h
     cases h
   ·rw [if_neg h3] at h ⊢
    unfold signL at h ⊢
    split
    ·exact ⟨by simp, fun h => by simp at h⟩
    ·rename_i hw
     rw [if_neg hw] at h
     split
     ·exact ⟨by simp, fun h => by simp at h⟩
     ·rename_i h8
      rw [if_neg h8] at h
      cases h
theorem said_len (k : Nat) (l : List UInt8) : (saidL k l).length ≤ l.length := by
 unfold saidL
 split
 ·rw [List.length_drop, List.length_take]; omega
 ·exact Nat.le_refl _
theorem lex_tokL (m : Nat) (l : List UInt8) (p : Nat) : p + l.length ≤ m → (lexL l p).2 = none → TokL m (lexL l p).1 := by
 refine lexL_ind (P := fun l p => p + l.length ≤ m → (lexL l p).2 = none → TokL m (lexL l p).1) ?_ ?_ ?_ ?_ ?_ ?_ l p
 ·intro p hm _
  exact ⟨[], ⟨0, [], p⟩, rfl, rfl, rfl, by simpa using hm, fun t ht => by cases ht⟩
 ·intro c r p h ih hm he
  rw [lexL_blank h] at he ⊢
  exact ih (by rw [List.length_cons] at hm; omega) he
 ·intro c r p h h1 h2 hm he
  rw [lexL_rem_end h h1 h2]
  exact ⟨[], ⟨0, [], p + (c :: r).length⟩, rfl, rfl, rfl, hm, fun t ht => by cases ht⟩
 ·intro c r p h h1 h2 ih hm he
  rw [lexL_rem h h1 h2] at he ⊢
  refine ih ?_ he
  have := runL_le (fun d => !decide (d = 10)) (c :: r)
  rw [List.length_drop]
  omega
 ·intro c r p h h1 h2 hm he
  rw [lexL_bad h h1 h2] at he
  cases he
 ·intro c r p h h1 h2 ih hm he
  have hs := first_size (c :: r) (by simp) h2
  have hf := first_tok (c :: r) h2 (by simp)
  rw [lexL_tok h h1 h2] at he ⊢
  obtain ⟨I, e, hT, h3, h4, h5, h6⟩ := ih (by rw [List.length_drop]; omega) he
  refine ⟨⟨(firstL (c :: r)).1, saidL (firstL (c :: r)).1 ((c :: r).take (firstL (c :: r)).2.1), p⟩ :: I, e, by rw [hT]; rfl, h3, h4, h5, fun t ht => ?_⟩
  rcases List.mem_cons.1 ht with rfl | ht
  ·refine ⟨hf.1, hf.2, ?_, by show p ≤ m; omega⟩
   have h7 := said_len (firstL (c :: r)).1 ((c :: r).take (firstL (c :: r)).2.1)
   rw [List.length_take] at h7
   show (saidL _ _).length ≤ m
   omega
  ·exact h6 t ht
theorem tokOK_of {m : Nat} {T : List Tok} (h : TokL m T) (hm : m ≤ 1000) (hl : T.length ≤ 1000) : TokOK T := by
 obtain ⟨I, e, rfl, h1, h2, h3, h4⟩ := h
 have hL : (I ++ [e]).length - 1 = I.length := by simp
 have hlast : (I ++ [e]).getD I.length default = e := by simp [List.getD]
 have hin : ∀ i, i < I.length → TokIn m ((I ++ [e]).getD i default) := fun i hi => by
  have : (I ++ [e]).getD i default = I[i] := by rw [List.getD, List.getElem?_append_left hi, List.getElem?_eq_getElem hi]; rfl
  rw [this]
  exact h4 _ (List.getElem_mem _)
 have all : ∀ i, i < (I ++ [e]).length → i < I.length ∨ i = I.length := fun i hi => by rw [List.length_append, List.length_singleton] at hi; omega
 refine ⟨by simp, hl, by rw [hL, hlast]; exact h1, fun i hi => (hin i (by rw [hL] at hi; exact hi)).1, fun i hi hk => ?_, fun i hi => ?_, fun i hi => ?_⟩
 ·rcases all i hi with h5 | rfl
  ·exact (hin i h5).2.1 hk
  ·rw [hlast, h1] at hk; cases hk
 ·rcases all i hi with h5 | rfl
  ·exact Nat.le_trans (hin i h5).2.2.1 hm
  ·rw [hlast, h2]; exact Nat.zero_le _
 ·rcases all i hi with h5 | rfl
  ·exact Nat.le_trans (hin i h5).2.2.2 hm
  ·rw [hlast]; exact Nat.le_trans h3 hm
theorem tokOK_lex (l : List UInt8) (hl : l.length ≤ 600) (h : (lexL l 0).2 = none) : TokOK (lexL l 0).1 :=
 tokOK_of (lex_tokL 600 l 0 (by omega) h) (by omega) (by have := tokens_le l 0; omega)
end Go.Proofs.YtbhpnioggpgbhaaGreatDoor

namespace Go.Proofs.YtbhpnioggpgbhaaGreatDoor
open Go Go.RowKit Go.Shelf
set_option linter.unusedVariables false
set_option linter.unusedSimpArgs false
/-- A row of elements of k cells each, where it lies. -/
def RdG (w : World) (a : Option Addr) (xs : List Value) : Prop := 0 < xs.length → ∃ b off, a = some ⟨b, off, none⟩ ∧ ∀ k u, xs[k]? = some u → w.cell? ⟨b, off + k, none⟩ = some u
theorem RdG.keep {w w' : World} {S : Nat → Prop} {a : Option Addr} {xs : List Value} (h : RdG w a xs) (hk : Keeps S w w') (hr : 0 < xs.length → ∀ b off, a = some ⟨b, off, none⟩ → ¬ S b) : RdG w' a xs := fun h0 => by
 obtain ⟨b, off, e, hc⟩ := h h0
 exact ⟨b, off, e, fun k u hu => (hk.cell (cell_ltk (hc k u hu)) (hr h0 b off e)).trans (hc k u hu)⟩
theorem RdG.lt {w : World} {a : Option Addr} {xs : List Value} (h : RdG w a xs) (h0 : 0 < xs.length) {b off : Nat} (e : a = some ⟨b, off, none⟩) : b < w.heap.size := by
 obtain ⟨b', off', e', hc⟩ := h h0
 rw [e] at e'
 cases e'
 exact cell_ltk (hc 0 xs[0] (List.getElem?_eq_getElem h0))
theorem own_rdG {w : World} {e : TypeId} {k : Nat} {A : Option Addr} {n c : Nat} {xs : List Value} (h : w.ownsRow 0 e k (.slice A n c) n xs) : RdG w A xs := fun h0 => by
 rcases h.2 with ⟨e1, h1⟩ | ⟨g, cap, cur, e1, _⟩
 ·rw [h.1, h1] at h0
  omega
 ·have e2 : A = some ⟨g, 0, none⟩ := by injection e1
  subst e2
  refine ⟨g, 0, rfl, fun j u hu => ?_⟩
  rw [Nat.zero_add]
  have hj : j < n * k := by rw [← h.1]; exact (List.getElem?_eq_some_iff.1 hu).1
  exact (h.cellAt j hj).trans hu
/-- A function, and where its params lie. -/
structure FM where
 d : Fnc
 a : Option Addr
 c : Nat
def FM.cells (x : FM) : List Value := [.string (ofL x.d.s), .int .i64 x.d.ln, .slice x.a x.d.ps.length x.c, .int .i64 x.d.ret, .int .i64 x.d.body]
def flatF (L : List FM) : List Value := L.flatMap FM.cells
theorem flatF_more (L : List FM) (x : FM) : flatF (L ++ [x]) = flatF L ++ x.cells := by simp [flatF]
theorem FM.one (x : FM) : ∀ u ∈ x.cells, u.oneCell' = true := by
 intro u hu
 simp only [FM.cells, List.mem_cons, List.not_mem_nil, or_false] at hu
 rcases hu with rfl | rfl | rfl | rfl | rfl <;> rfl
theorem flatF_length (L : List FM) : (flatF L).length = L.length * 5 := by
 induction L with
 | nil => rfl
 | cons a L ih => show (a.cells ++ flatF L).length = _; rw [List.length_append, ih, List.length_cons]; show 5 + _ = _; omega
theorem flatN_length (L : List NM) : (flatN L).length = L.length * 5 := by
 induction L with
 | nil => rfl
 | cons a L ih => rw [flatN_cons, List.length_append, ih, List.length_cons]; show 5 + _ = _; omega
theorem flatP_length (L : List (List UInt8 × Int)) : (flatP L).length = L.length * 2 := by
 induction L with
 | nil => rfl
 | cons a L ih => show (PmV a ++ flatP L).length = _; rw [List.length_append, ih, List.length_cons]; show 2 + _ = _; omega
theorem flatF_at (L : List FM) (i j : Nat) (hi : i < L.length) (hj : j < 5) : (flatF L)[i * 5 + j]? = (L[i]).cells[j]? := by
 induction L generalizing i with
 | nil => exact absurd hi (Nat.not_lt_zero _)
 | cons a L ih =>
  show (a.cells ++ flatF L)[i * 5 + j]? = _
  cases i with
  | zero => rw [List.getElem?_append_left (by show 0 * 5 + j < 5; omega), Nat.zero_mul, Nat.zero_add]; rfl
  | succ i =>
   rw [List.getElem?_append_right (by show 5 ≤ _; omega), show (i + 1) * 5 + j - a.cells.length = i * 5 + j by show _ - 5 = _; omega]
   exact ih i (by simpa using hi)
theorem flatN_at (L : List NM) (i j : Nat) (hi : i < L.length) (hj : j < 5) : (flatN L)[i * 5 + j]? = (L[i]).cells[j]? := by
 induction L generalizing i with
 | nil => exact absurd hi (Nat.not_lt_zero _)
 | cons a L ih =>
  rw [flatN_cons]
  cases i with
  | zero => rw [List.getElem?_append_left (by show 0 * 5 + j < 5; omega), Nat.zero_mul, Nat.zero_add]; rfl
  | succ i =>
   rw [List.getElem?_append_right (by show 5 ≤ _; omega), show (i + 1) * 5 + j - a.cells.length = i * 5 + j by show _ - 5 = _; omega]
   exact ih i (by simpa using hi)
theorem info_func : (Tryz.prog.info? 49).map (fun i => (i.zero, i.size, i.bytes)) = some (some (.agg #[.string ⟨#[]⟩, .int .i64 0, .slice none 0 0, .int .i64 0, .int .i64 0]), 5, 64) := by kernel_rfl
/-- The functions so far. -/
structure FnsM (B : Nat) (w : World) (R : Nat → Prop) (v : Value) (n : Nat) (L : List FM) : Prop where
 hn : n = L.length
 own : w.ownsRow 0 49 5 v n (flatF L)
 blk : ∀ g, v.ownBlock = some g → ¬ R g ∧ B ≤ g
 ps : ∀ x ∈ L, RdG w x.a (flatP x.d.ps) ∧ (0 < (flatP x.d.ps).length → ∀ b off, x.a = some ⟨b, off, none⟩ → ¬ R b ∧ B ≤ b ∧ v.ownBlock ≠ some b)
theorem FnsM.keep {B : Nat} {w w' : World} {R R' : Nat → Prop} {v : Value} {n : Nat} {L : List FM} (h : FnsM B w R v n L) (f : Fr R w R' w') : FnsM B w' R' v n L :=
 ⟨h.hn, ownsRow_keep h.own (fun g hg => f.1.block g (own_ltk h.own hg) (h.blk g hg).1), fun g hg => ⟨fun hr => (h.blk g hg).1 (f.2 g (own_ltk h.own hg) hr), (h.blk g hg).2⟩,
  fun x hx => ⟨(h.ps x hx).1.keep f.1 (fun h0 b off e => ((h.ps x hx).2 h0 b off e).1), fun h0 b off e => ⟨fun hr => ((h.ps x hx).2 h0 b off e).1 (f.2 b ((h.ps x hx).1.lt h0 e) hr), ((h.ps x hx).2 h0 b off e).2⟩⟩⟩
theorem FnsM.keeps {B : Nat} {w w' : World} {R : Nat → Prop} {v : Value} {n : Nat} {L : List FM} (h : FnsM B w R v n L) (k : Keeps (fun _ => False) w w') : FnsM B w' R v n L := h.keep ((Fr.refl R w).keeps k)
theorem FnsM.more {B : Nat} {w w1 w5 : World} {R : Nat → Prop} {v v5 : Value} {n : Nat} {L : List FM} (h : FnsM B w R v n L) (hR : ∀ b, R b → b < w.heap.size) (hB : B ≤ w.heap.size) (k1 : Keeps (fun _ => False) w w1) (x : FM) (hx : RdG w1 x.a (flatP x.d.ps)) (hxb : 0 < (flatP x.d.ps).length → ∀ b off, x.a = some ⟨b, off, none⟩ → ¬ R b ∧ B ≤ b ∧ v.ownBlock ≠ some b)
  (ho : w5.ownsRow 0 49 5 v5 (n + 1) (flatF L ++ x.cells)) (hg : w1.grownBy w5 v.ownBlock) (hb : v5.ownBlock = v.ownBlock ∨ v5.ownBlock = some w1.heap.size) : FnsM B w5 R v5 (n + 1) (L ++ [x]) := by
 have k15 : Keeps (fun b => v.ownBlock = some b) w1 w5 := ⟨hg.os, hg.tape, hg.output, hg.size, fun b hb hn => hg.block b hb (fun e => hn e.symm)⟩
 have s1 := k1.size
 have out : ∀ b, b < w1.heap.size → v.ownBlock ≠ some b → v5.ownBlock ≠ some b := fun b hb2 hn e => by
  rcases hb with e5 | e5
  ·exact hn (by rw [← e5]; exact e)
  ·rw [e5] at e
   cases e
   omega
 refine ⟨by rw [List.length_append, h.hn]; rfl, by rw [flatF_more]; exact ho, fun g hg5 => ?_, fun y hy => ?_⟩
 ·rcases hb with e5 | e5
  ·rw [e5] at hg5
   exact h.blk g hg5
  ·rw [e5] at hg5
   cases hg5
   exact ⟨fun hr => by have := hR _ hr; omega, by omega⟩
 ·rcases List.mem_append.1 hy with hy | hy
  ·have hy1 := (h.ps y hy).1.keep k1 (fun _ _ _ _ h => h)
   refine ⟨hy1.keep k15 (fun h0 b off e => ((h.ps y hy).2 h0 b off e).2.2), fun h0 b off e => ⟨((h.ps y hy).2 h0 b off e).1, ((h.ps y hy).2 h0 b off e).2.1, out b (hy1.lt h0 e) ((h.ps y hy).2 h0 b off e).2.2⟩⟩
  ·rw [List.mem_singleton.1 hy]
   exact ⟨hx.keep k15 (fun h0 b off e => (hxb h0 b off e).2.2), fun h0 b off e => ⟨(hxb h0 b off e).1, (hxb h0 b off e).2.1, out b (hx.lt h0 e) (hxb h0 b off e).2.2⟩⟩
/-- A tree that can be read: its nodes and functions lie in blocks from B on. -/
structure TreeR (B : Nat) (w : World) (A A' : Option Addr) (nd : List Nd) (fs : List Fnc) : Prop where
 nodes : ∃ L : List NM, L.map NM.d = nd ∧ RdG w A (flatN L) ∧ ∀ x ∈ L, RdI w x.a x.d.l
 fns : ∃ L : List FM, L.map FM.d = fs ∧ RdG w A' (flatF L) ∧ ∀ x ∈ L, RdG w x.a (flatP x.d.ps)
theorem TreeR.keep {B : Nat} {w w' : World} {A A' : Option Addr} {nd : List Nd} {fs : List Fnc} (h : TreeR B w A A' nd fs) (k : Keeps (fun _ => False) w w') : TreeR B w' A A' nd fs := by
 obtain ⟨⟨L, h1, h2, h3⟩, ⟨M, h4, h5, h6⟩⟩ := h
 exact ⟨⟨L, h1, h2.keep k (fun _ _ _ _ h => h), fun x hx => (h3 x hx).keep k (fun _ _ _ _ h => h)⟩, ⟨M, h4, h5.keep k (fun _ _ _ _ h => h), fun x hx => (h6 x hx).keep k (fun _ _ _ _ h => h)⟩⟩
/-- The rows below nodes are not longer than what they have room for. -/
def CapR (w : World) (A : Option Addr) (nd : List Nd) : Prop := ∀ i (hi : i < nd.length), ∃ b off a c, A = some ⟨b, off, none⟩ ∧ w.cell? ⟨b, off + i * 5 + 4, none⟩ = some (.slice a (nd[i]).l.length c) ∧ (nd[i]).l.length ≤ c
theorem CapR.keep {w w' : World} {A : Option Addr} {nd : List Nd} (h : CapR w A nd) (k : Keeps (fun _ => False) w w') : CapR w' A nd := fun i hi => by
 obtain ⟨b, off, a, c, e, h1, h2⟩ := h i hi
 exact ⟨b, off, a, c, e, (k.cell (cell_ltk h1) (fun h => h)).trans h1, h2⟩
/-- What a parser tells. -/
def TreeE (B : Nat) (res : (Nat × Nat) ⊕ (List Nd × List Fnc)) (e : Ending) (w' : World) : Prop :=
 match res with
 | .inl pe => e = .returned (.tuple #[.agg #[.slice none 0 0, .slice none 0 0], .int .i64 (pe.1 : Int), .int .i64 (pe.2 : Int)])
 | .inr t => ∃ A c A' c', e = .returned (.tuple #[.agg #[.slice A t.1.length c, .slice A' t.2.length c'], .int .i64 0, .int .i64 0]) ∧ TreeR B w' A A' t.1 t.2 ∧ CapR w' A t.1
/-- What a parser in memory and its functions are as a tree. -/
theorem tree_of {B : Nat} {w : World} {P : Nat} {src : ByteArray} {T : List Tok} {R : Nat → Prop} {s : PS} {n : Nat} {L : List FM} {A' : Option Addr} {c' : Nat} (hp : Par w P src T R s) (hf : FnsM B w R (.slice A' n c') n L) :
  ∃ A c, w.cell? ⟨P, 5, none⟩ = some (.slice A s.nd.length c) ∧ TreeR 0 w A A' s.nd (L.map FM.d) := by
 obtain ⟨A0, cT, v, M, h⟩ := hp
 obtain ⟨A, c, rfl⟩ := own_formk h.own
 have hl : M.length = s.nd.length := by rw [← h.nd, List.length_map]
 refine ⟨A, c, by rw [← hl]; exact h.c5, ⟨M, h.nd, own_rdG h.own, fun x hx => (h.ls x hx).1⟩, ⟨L, rfl, own_rdG hf.own, fun x hx => (hf.ps x hx).1⟩⟩
theorem FnsM.keepC {B : Nat} {w w' : World} {R : Nat → Prop} {v : Value} {n : Nat} {L : List FM} (h : FnsM B w R v n L) {C : Nat} (k : Keeps (fun b => b = C) w w') (hC : C < B) : FnsM B w' R v n L :=
 ⟨h.hn, ownsRow_keep h.own (fun g hg => k.block g (own_ltk h.own hg) (fun e => by have := (h.blk g hg).2; have e : g = C := e; omega)), h.blk,
  fun x hx => ⟨(h.ps x hx).1.keep k (fun h0 b off e e2 => by have := ((h.ps x hx).2 h0 b off e).2.1; have e2 : b = C := e2; omega), (h.ps x hx).2⟩⟩
theorem fn_out {w' : World} {Af : Option Addr} {n cf Bw B : Nat} {l : List (List UInt8 × Int)} {R' : Nat → Prop} {v : Value} (ho : w'.ownsRow 0 69 2 (.slice Af n cf) n (flatP l)) (hb : ∀ g, (Value.slice Af n cf).ownBlock = some g → ¬ R' g ∧ Bw ≤ g) (hv : ∀ g, v.ownBlock = some g → g < Bw) (hB : B ≤ Bw) :
  0 < (flatP l).length → ∀ b off, Af = some ⟨b, off, none⟩ → ¬ R' b ∧ B ≤ b ∧ v.ownBlock ≠ some b := fun h0 b off e => by
 have e1 : (Value.slice Af n cf).ownBlock = some b := by rw [e]; rfl
 exact ⟨(hb b e1).1, Nat.le_trans hB (hb b e1).2, fun e2 => by have h1 := hv b e2; have h2 := (hb b e1).2; omega⟩
theorem small_next {L : List FM} {i : Nat} (hs : ∀ j (hj : j < L.length), j < i → ¬ 3 < (L[j]).d.ps.length) (hi : i < L.length) (h : ¬ 3 < (L[i]).d.ps.length) : ∀ j (hj : j < L.length), j < i + 1 → ¬ 3 < (L[j]).d.ps.length := fun j hj hji => by
 by_cases e : j = i
 ·subst e
  exact h
 ·exact hs j hj (by omega)
theorem treeE_inl {B p er : Nat} {res : (Nat × Nat) ⊕ (List Nd × List Fnc)} (h : res = .inl (p, er)) (w' : World) : TreeE B res (.returned (.tuple #[.agg #[.slice none 0 0, .slice none 0 0], .int .i64 (p : Int), .int .i64 (er : Int)])) w' := by
 rw [h]
 exact rfl
theorem treeE_inr {B : Nat} {res : (Nat × Nat) ⊕ (List Nd × List Fnc)} {nd : List Nd} {fs : List Fnc} (h : res = .inr (nd, fs)) {w' : World} {A A' : Option Addr} {c c' m n : Nat} (hm : m = nd.length) (hn : n = fs.length) (ht : TreeR B w' A A' nd fs) (hcp : CapR w' A nd) : TreeE B res (.returned (.tuple #[.agg #[.slice A m c, .slice A' n c'], .int .i64 0, .int .i64 0])) w' := by
 rw [h, hm, hn]
 exact ⟨A, c, A', c', rfl, ht, hcp⟩
theorem tree_of2 {B : Nat} {w w' : World} {P C : Nat} {src : ByteArray} {T : List Tok} {R : Nat → Prop} {s : PS} {n m : Nat} {L : List FM} {A A' : Option Addr} {c c' : Nat} (hp : Par w P src T R s) (hf : FnsM B w R (.slice A' n c') n L) (h5 : w.cell? ⟨P, 5, none⟩ = some (.slice A m c)) (k : Keeps (fun b => b = C) w w') (hR : ¬ R C) (hC : C < B) :
  TreeR 0 w' A A' s.nd (L.map FM.d) := by
 obtain ⟨A0, cT, v, M, h⟩ := hp
 have e := h.c5.symm.trans h5
 injection e with e
 subst e
 have hq := hf.keepC k hC
 have hm : m = M.length := by
  rcases h.own.2 with ⟨e1, h1⟩ | ⟨g, cap, cur, e1, _⟩
  ·injection e1 with _ e2 _
   omega
  ·injection e1
 subst hm
 refine ⟨⟨M, h.nd, (own_rdG h.own).keep k (fun h0 b off e hc => hR (by have hc : b = C := hc; rw [← hc]; exact (h.vb b (by rw [e]; rfl)).1)), fun x hx => (h.ls x hx).1.keep k (fun h0 b off e hc => hR (by have hc : b = C := hc; rw [← hc]; exact ((h.ls x hx).2 h0 b off e).1))⟩, ⟨L, rfl, own_rdG hq.own, fun x hx => (hq.ps x hx).1⟩⟩
theorem cap_of2 {w w' : World} {P C : Nat} {src : ByteArray} {T : List Tok} {R : Nat → Prop} {s : PS} {m : Nat} {A : Option Addr} {c : Nat} (hp : Par w P src T R s) (h5 : w.cell? ⟨P, 5, none⟩ = some (.slice A m c)) (k : Keeps (fun b => b = C) w w') (hR : ¬ R C) : CapR w' A s.nd := by
 obtain ⟨A0, cT, v, M, h⟩ := hp
 have e := h.c5.symm.trans h5
 injection e with e
 subst e
 have hm : m = M.length := by
  rcases h.own.2 with ⟨e1, h1⟩ | ⟨g, cap, cur, e1, _⟩
  ·injection e1 with _ e2 _
   omega
  ·injection e1
 subst hm
 intro i hi
 have hM : s.nd = M.map NM.d := h.nd.symm
 have hiM : i < M.length := by rw [hM, List.length_map] at hi; exact hi
 obtain ⟨b, off, e1, hc⟩ := own_rdG h.own (by rw [flatN_length]; omega)
 have hcell := hc (i * 5 + 4) (.slice (M[i]).a (M[i]).d.l.length (M[i]).c) (by rw [flatN_at M i 4 hiM (by omega)]; rfl)
 have hk := (k.cell (cell_ltk hcell) (fun hb => hR (by have hb : b = C := hb; rw [← hb]; exact (h.vb b (by rw [e1]; rfl)).1))).trans hcell
 have en : s.nd[i] = (M[i]).d := by simp only [hM, List.getElem_map]
 refine ⟨b, off, (M[i]).a, (M[i]).c, e1, ?_, ?_⟩
 ·rw [en, show off + i * 5 + 4 = off + (i * 5 + 4) by omega]; exact hk
 ·rw [en]; exact h.cap _ (List.getElem_mem hiM)
end Go.Proofs.YtbhpnioggpgbhaaGreatDoor

namespace Go.Proofs.YtbhpnioggpgbhaaGreatDoor
open Go Go.RowKit Go.Shelf
set_option linter.unusedVariables false
set_option linter.unusedSimpArgs false
theorem results_cell_tmp3 {fn : Func} {p u v : Tmp} {ty : TypeId} (h : fn.results = #[.cell p ty, .tmp u, .tmp v]) (tmps : Array Value) (P : Program) (w : World) :
  (results fn tmps).run P w =
   ((asAddr (tmps.getD p undef)).run P w).andThen fun a w₁ => ((loadVar ty a).run P w₁).andThen fun x w₂ => .ok (.tuple #[x, tmps.getD u undef, tmps.getD v undef]) w₂ := by
 simp only [results, h]
 simp [Sem.run_bind, Result.andThen]
set_option maxRecDepth 100000 in
set_option maxHeartbeats 16000000 in
theorem pall_err (s : ByteArray) (w : World) (p er : Nat) (her : er ≠ 0) (LC : ∀ w1, Keeps (fun _ => False) w w1 → Calls Tryz.prog 33 #[.string s] w1 fun e w' => e = .returned (.tuple #[.slice none 0 0, .int .i64 (p : Int), .int .i64 (er : Int)]) ∧ Keeps (fun _ => False) w1 w') :
  Calls Tryz.prog 22 #[.string s] w fun e w' => e = .returned (.tuple #[.agg #[.slice none 0 0, .slice none 0 0], .int .i64 (p : Int), .int .i64 (er : Int)]) ∧ Keeps (fun _ => False) w w' := by
 have HLC := Lib.hid LC
 have hd : ((er : Int) != 0) = true := by simp; omega
 obtain ⟨ei, hei⟩ : ∃ ei : Int, ei = er := ⟨_, rfl⟩
 rw [← hei] at hd HLC ⊢
 obtain ⟨pi, hpi⟩ : ∃ pi : Int, pi = p := ⟨_, rfl⟩
 rw [← hpi] at HLC ⊢
 clear LC hei hpi her
 go_enter Tryz.func22, Tryz.ntmps22
 go_upto_region 1 with fail
 have ka := Keeps.one w (.cells #[.slice none 0 0, .slice none 0 0] 27)
 obtain ⟨C, hC⟩ : ∃ C, C = w.heap.size := ⟨_, rfl⟩
 obtain ⟨w1, hw⟩ : ∃ w1, w1 = w.alloc (.cells #[.slice none 0 0, .slice none 0 0] 27) := ⟨_, rfl⟩
 have z : Loc w1 (fun _ => False) C [.slice none 0 0, .slice none 0 0] := by rw [hw, hC]; exact Loc.new (fun h => h) [.slice none 0 0, .slice none 0 0] 27
 rw [← hC]
 rw [← hw] at ka ⊢
 have Z := Lib.hid z
 have KA := Lib.hid ka
 have HC := Lib.hid hC
 have CC := Lib.hid (HLC.out w1 ka)
 clear z ka hC hw HLC
 go_wp2_with fail
 refine CC.out.mono ?_
 rintro e w2 ⟨rfl, k2⟩
 have Z2 := Z.out.keeps k2
 have z0 := Z2.cells 0 _ rfl
 have z1 := Z2.cells 1 _ rfl
 have f0 := Z2.fz 0
 have f1 := Z2.fz 1
 have KK : Hid (∀ v0 v1 : Value, Keeps (fun _ => False) w ((w2.setCell ⟨C, 0, none⟩ v0).setCell ⟨C, 1, none⟩ v1)) := Lib.hid fun v0 v1 => by
  have k := (KA.out.trans k2 (fun _ _ h => h)).mono (T := fun b => w.heap.size ≤ b) (fun _ _ h => h.elim)
  have hc : w.heap.size ≤ C := by rw [HC.out]; exact Nat.le_refl _
  exact kback ((k.setCell (p := ⟨C, 0, none⟩) (fun _ => hc) v0).setCell (p := ⟨C, 1, none⟩) (fun _ => hc) v1) rfl
 clear Z2 CC k2 Z
 go_wp2_with fail
 (try simp only [Exit.inBlock, Exit.then])
 refine bodyPost_ret (v := .tuple #[.agg #[.slice none 0 0, .slice none 0 0], .int .i64 pi, .int .i64 ei]) ?_ rfl ?_
 ·rw [results_cell_tmp3 rfl]
  go_simp
 exact ⟨rfl, KK.out _ _⟩
end Go.Proofs.YtbhpnioggpgbhaaGreatDoor
