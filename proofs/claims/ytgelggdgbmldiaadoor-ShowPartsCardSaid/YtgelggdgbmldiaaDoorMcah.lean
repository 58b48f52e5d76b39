/-
  Layer 2: choice, change. Written by an AI agent.
  Layer 2: function. Written by an AI agent.
  Layer 2: what a lexer's tokens are like. Written by an AI agent.
  Layer 2: a tree in memory. Written by an AI agent.
  Layer 2: All: an error of the lexer. Written by an AI agent.
  Layer 2: the document's example. Written by an AI agent.
  Layer 2: what ParseBelow asks of the nodes, as data. Written by an AI agent.
-/
import Derived.Lib.Bytealg
import Derived.Test.YtgelggdgbmldiaaDoorChecked
import Derived.Laws.OwnMore
import Derived.Laws.AppendOwnNone
import Derived.OwnWalk
import Derived.Lib.AppendZerosOnto
import Derived.Below
import Derived.Stop.Walk2
import Derived.WalkKit
import Derived.WalkLawsBesides
import Derived.WalkSpells
import Derived.Outline
import Derived.BigQuiet
import Derived.Deep.CutBlock
import Derived.Deep.CutRange
import Derived.Deep.DeepCutAuto
import Derived.Deep.RegionHeld3
import Derived.Deep.RegionLaw
import Derived.Deep.RegionWith
import Derived.StillTailTactics
import Derived.RegionTactic
import Derived.Laws.StructEq
import Derived.Lib.Hide
import Derived.Shelf.Abstract
import Derived.Shelf.Lay
import Derived.Ground.NamesProg
import Derived.Shelf.Strings.Prefix
import Derived.Shelf.Small.Strs
import Derived.Shelf.Strings.Count
import Derived.Shelf.Strconv.ErrVarParseInt
import Derived.WalkMore
import Derived.Scope
import Derived.Shelf.Slices.Turned
import Derived.Lib.SlicesS
import Derived.Deep.RegionHeld
import Derived.Test.YtgelggdgbmldiaaDoorMcaa
import Derived.Test.YtgelggdgbmldiaaDoorMcac
import Derived.Test.YtgelggdgbmldiaaDoorMcad
import Derived.Test.YtgelggdgbmldiaaDoorMcag
import Derived.Deep.LoopGhost
import Derived.Deep.Light
import Derived.Test.YtgelggdgbmldiaaDoorMcab
namespace Go.Proofs.YtgelggdgbmldiaaDoor
open Go Go.RowKit Go.Shelf
set_option linter.unusedVariables false
set_option linter.unusedSimpArgs false
theorem row_app {w : World} {v : Value} {n : Nat} {l : List Int} {a : Int} (h : w.ownsRow 0 3 1 v n (valI l ++ valI [a])) : w.ownsRow 0 3 1 v n (valI (l ++ [a])) := by rw [valI_append]; exact h
theorem row_out {v v5 : Value} {X B : Nat} (b5 : v5.ownBlock = v.ownBlock ∨ v5.ownBlock = some B) (hl : X < B) (h : ∀ g, v.ownBlock = some g → ¬ X = g) : ∀ g, v5.ownBlock = some g → ¬ X = g := fun g hg e => by
  rcases b5 with e5 | e5
  · exact h g (by rw [← e5]; exact hg) e
  · rw [e5] at hg
    cases hg
    exact absurd hl (by omega)
end Go.Proofs.YtgelggdgbmldiaaDoor

namespace Go.Proofs.YtgelggdgbmldiaaDoor
open Go Go.RowKit Go.Shelf
set_option linter.unusedVariables false
set_option linter.unusedSimpArgs false
def PmV (p : List UInt8 × Int) : List Value := [.string (ofL p.1), .int .i64 p.2]
def flatP (l : List (List UInt8 × Int)) : List Value := l.flatMap PmV
theorem flatP_more (l : List (List UInt8 × Int)) (p : List UInt8 × Int) : flatP (l ++ [p]) = flatP l ++ PmV p := by simp [flatP]
theorem PmV_one (p : List UInt8 × Int) : ∀ u ∈ PmV p, u.oneCell' = true := by
  intro u hu
  simp only [PmV, List.mem_cons, List.not_mem_nil, or_false] at hu
  rcases hu with rfl | rfl <;> rfl
theorem info_param : (Tryd.prog.info? 59).map (fun i => (i.zero, i.size, i.bytes)) = some (some (.agg #[.string ⟨#[]⟩, .int .i64 0]), 2, 24) := by kernel_rfl
theorem newsG {w : World} (vs : List Value) (t : TypeId) : ∀ j u, vs[j]? = some u → (w.alloc (.cells vs.toArray t)).cell? ((⟨w.heap.size, 0, none⟩ : Addr).add j) = some u := by
  intro j u h
  have e : (⟨w.heap.size, 0, none⟩ : Addr).add j = ⟨w.heap.size, j, none⟩ := by unfold Addr.add; split <;> simp_all
  rw [e, World.cell?_alloc_mark]
  simpa using h
theorem own_keepG {w w' : World} {R R' : Nat → Prop} {e : TypeId} {size : Nat} {v : Value} {n : Nat} {xs : List Value} (h : w.ownsRow 0 e size v n xs) (f : Fr R w R' w') {B : Nat} (hb : ∀ g, v.ownBlock = some g → ¬ R g ∧ B ≤ g) :
    w'.ownsRow 0 e size v n xs ∧ ∀ g, v.ownBlock = some g → ¬ R' g ∧ B ≤ g :=
  ⟨ownsRow_keep h (fun g hg => f.1.block g (own_ltk h hg) (hb g hg).1), fun g hg => ⟨fun hr => (hb g hg).1 (f.2 g (own_ltk h hg) hr), (hb g hg).2⟩⟩
theorem own_len {w : World} {e : TypeId} {k : Nat} {A : Option Addr} {n m c : Nat} {xs : List Value} (h : n = m) (ho : w.ownsRow 0 e k (.slice A n c) n xs) : w.ownsRow 0 e k (.slice A m c) m xs := h ▸ ho
theorem own_blk (A : Option Addr) (n m c : Nat) : (Value.slice A n c).ownBlock = (Value.slice A m c).ownBlock := by cases A <;> rfl
end Go.Proofs.YtgelggdgbmldiaaDoor

namespace Go.Proofs.YtgelggdgbmldiaaDoor
open Go.RowKit Go.Shelf
set_option linter.unusedVariables false
set_option linter.unusedSimpArgs false
/-- A token that is not the end. -/
def TokIn (m : Nat) (t : Tok) : Prop := t.k ≠ 0 ∧ (t.k = 1 → t.x ≠ [] ∧ (∀ c ∈ t.x, dig c = true) ∧ numV t.x ≤ 9223372036854775807) ∧ t.x.length ≤ m ∧ t.p ≤ m
def TokL (m : Nat) (T : List Tok) : Prop := ∃ I e, T = I ++ [e] ∧ e.k = 0 ∧ e.x = [] ∧ e.p ≤ m ∧ ∀ t ∈ I, TokIn m t
theorem first_tok (l : List UInt8) (h : (firstL l).2.2 = 0) (hl : l ≠ []) : (firstL l).1 ≠ 0 ∧ ((firstL l).1 = 1 → saidL (firstL l).1 (l.take (firstL l).2.1) ≠ [] ∧ (∀ c ∈ saidL (firstL l).1 (l.take (firstL l).2.1), dig c = true) ∧ numV (saidL (firstL l).1 (l.take (firstL l).2.1)) ≤ 9223372036854775807) := by
  obtain ⟨c, r, rfl⟩ := List.exists_cons_of_ne_nil hl
  rw [firstL_cons] at h ⊢
  by_cases h1 : dig c = true
  · rw [if_pos h1] at h ⊢
    have hr : runL dig (c :: r) = runL dig r + 1 := by show (if dig c then _ else 0) = _; rw [if_pos h1]
    unfold numberL at h ⊢
    split at h
    · rename_i hc
      rw [if_pos hc]
      refine ⟨by simp, fun _ => ?_⟩
      show saidL 1 _ ≠ [] ∧ _
      have e : saidL 1 ((c :: r).take (runL dig (c :: r))) = (c :: r).take (runL dig (c :: r)) := if_neg (by decide)
      rw [show (((1 : Nat), runL dig (c :: r), (0 : Nat)) : Nat × Nat × Nat).2.1 = runL dig (c :: r) from rfl, show (((1 : Nat), runL dig (c :: r), (0 : Nat)) : Nat × Nat × Nat).1 = 1 from rfl, e]
      refine ⟨?_, runL_all dig (c :: r), hc.1⟩
      rw [hr]
      simp
    · cases h
  · rw [if_neg h1] at h ⊢
    by_cases h2 : ltr c = true
    · rw [if_pos h2] at h ⊢
      unfold nameL at h ⊢
      split
      · exact ⟨by simp, fun h => by simp at h⟩
      · rename_i hw
        rw [if_neg hw] at h
        split
        · rename_i h8
          rw [if_pos h8] at h
          cases h
        · exact ⟨by simp, fun h => by simp at h⟩
    · rw [if_neg h2] at h ⊢
      by_cases h3 : c = 34
      · rw [if_pos h3] at h ⊢
        unfold textL at h ⊢
        split
        · rename_i hw
          rw [if_pos hw] at h
          split
          · rename_i h8
            rw [if_pos h8] at h
            cases h
          · exact ⟨by simp, fun h => by simp at h⟩
        · rename_i hw
          rw [if_neg hw] at h
          cases h
      · rw [if_neg h3] at h ⊢
        unfold signL at h ⊢
        split
        · exact ⟨by simp, fun h => by simp at h⟩
        · rename_i hw
          rw [if_neg hw] at h
          split
          · exact ⟨by simp, fun h => by simp at h⟩
          · rename_i h8
            rw [if_neg h8] at h
            cases h
theorem said_len (k : Nat) (l : List UInt8) : (saidL k l).length ≤ l.length := by
  unfold saidL
  split
  · rw [List.length_drop, List.length_take]; omega
  · exact Nat.le_refl _
theorem lex_tokL (m : Nat) (l : List UInt8) (p : Nat) : p + l.length ≤ m → (lexL l p).2 = none → TokL m (lexL l p).1 := by
  refine lexL_ind (P := fun l p => p + l.length ≤ m → (lexL l p).2 = none → TokL m (lexL l p).1) ?_ ?_ ?_ ?_ ?_ ?_ l p
  · intro p hm _
    exact ⟨[], ⟨0, [], p⟩, rfl, rfl, rfl, by simpa using hm, fun t ht => by cases ht⟩
  · intro c r p h ih hm he
    rw [lexL_blank h] at he ⊢
    exact ih (by rw [List.length_cons] at hm; omega) he
  · intro c r p h h1 h2 hm he
    rw [lexL_rem_end h h1 h2]
    exact ⟨[], ⟨0, [], p + (c :: r).length⟩, rfl, rfl, rfl, hm, fun t ht => by cases ht⟩
  · intro c r p h h1 h2 ih hm he
    rw [lexL_rem h h1 h2] at he ⊢
    refine ih ?_ he
    have := runL_le (fun d => !decide (d = 10)) (c :: r)
    rw [List.length_drop]
    omega
  · intro c r p h h1 h2 hm he
    rw [lexL_bad h h1 h2] at he
    cases he
  · intro c r p h h1 h2 ih hm he
    have hs := first_size (c :: r) (by simp) h2
    have hf := first_tok (c :: r) h2 (by simp)
    rw [lexL_tok h h1 h2] at he ⊢
    obtain ⟨I, e, hT, h3, h4, h5, h6⟩ := ih (by rw [List.length_drop]; omega) he
    refine ⟨⟨(firstL (c :: r)).1, saidL (firstL (c :: r)).1 ((c :: r).take (firstL (c :: r)).2.1), p⟩ :: I, e, by rw [hT]; rfl, h3, h4, h5, fun t ht => ?_⟩
    rcases List.mem_cons.1 ht with rfl | ht
    · refine ⟨hf.1, hf.2, ?_, by show p ≤ m; omega⟩
      have h7 := said_len (firstL (c :: r)).1 ((c :: r).take (firstL (c :: r)).2.1)
      rw [List.length_take] at h7
      show (saidL _ _).length ≤ m
      omega
    · exact h6 t ht
theorem tokOK_of {m : Nat} {T : List Tok} (h : TokL m T) (hm : m ≤ 1000) (hl : T.length ≤ 1000) : TokOK T := by
  obtain ⟨I, e, rfl, h1, h2, h3, h4⟩ := h
  have hL : (I ++ [e]).length - 1 = I.length := by simp
  have hlast : (I ++ [e]).getD I.length default = e := by simp [List.getD]
  have hin : ∀ i, i < I.length → TokIn m ((I ++ [e]).getD i default) := fun i hi => by
    have : (I ++ [e]).getD i default = I[i] := by rw [List.getD, List.getElem?_append_left hi, List.getElem?_eq_getElem hi]; rfl
    rw [this]
    exact h4 _ (List.getElem_mem _)
  have all : ∀ i, i < (I ++ [e]).length → i < I.length ∨ i = I.length := fun i hi => by rw [List.length_append, List.length_singleton] at hi; omega
  refine ⟨by simp, hl, by rw [hL, hlast]; exact h1, fun i hi => (hin i (by rw [hL] at hi; exact hi)).1, fun i hi hk => ?_, fun i hi => ?_, fun i hi => ?_⟩
  · rcases all i hi with h5 | rfl
    · exact (hin i h5).2.1 hk
    · rw [hlast, h1] at hk; cases hk
  · rcases all i hi with h5 | rfl
    · exact Nat.le_trans (hin i h5).2.2.1 hm
    · rw [hlast, h2]; exact Nat.zero_le _
  · rcases all i hi with h5 | rfl
    · exact Nat.le_trans (hin i h5).2.2.2 hm
    · rw [hlast]; exact Nat.le_trans h3 hm
theorem tokOK_lex (l : List UInt8) (hl : l.length ≤ 600) (h : (lexL l 0).2 = none) : TokOK (lexL l 0).1 :=
  tokOK_of (lex_tokL 600 l 0 (by omega) h) (by omega) (by have := tokens_le l 0; omega)
end Go.Proofs.YtgelggdgbmldiaaDoor

namespace Go.Proofs.YtgelggdgbmldiaaDoor
open Go Go.RowKit Go.Shelf
set_option linter.unusedVariables false
set_option linter.unusedSimpArgs false
/-- A row of elements of k cells each, where it lies. -/
def RdG (w : World) (a : Option Addr) (xs : List Value) : Prop := 0 < xs.length → ∃ b off, a = some ⟨b, off, none⟩ ∧ ∀ k u, xs[k]? = some u → w.cell? ⟨b, off + k, none⟩ = some u
theorem RdG.keep {w w' : World} {S : Nat → Prop} {a : Option Addr} {xs : List Value} (h : RdG w a xs) (hk : Keeps S w w') (hr : 0 < xs.length → ∀ b off, a = some ⟨b, off, none⟩ → ¬ S b) : RdG w' a xs := fun h0 => by
  obtain ⟨b, off, e, hc⟩ := h h0
  exact ⟨b, off, e, fun k u hu => (hk.cell (cell_ltk (hc k u hu)) (hr h0 b off e)).trans (hc k u hu)⟩
theorem RdG.lt {w : World} {a : Option Addr} {xs : List Value} (h : RdG w a xs) (h0 : 0 < xs.length) {b off : Nat} (e : a = some ⟨b, off, none⟩) : b < w.heap.size := by
  obtain ⟨b', off', e', hc⟩ := h h0
  rw [e] at e'
  cases e'
  exact cell_ltk (hc 0 xs[0] (List.getElem?_eq_getElem h0))
theorem own_rdG {w : World} {e : TypeId} {k : Nat} {A : Option Addr} {n c : Nat} {xs : List Value} (h : w.ownsRow 0 e k (.slice A n c) n xs) : RdG w A xs := fun h0 => by
  rcases h.2 with ⟨e1, h1⟩ | ⟨g, cap, cur, e1, _⟩
  · rw [h.1, h1] at h0
    omega
  · have e2 : A = some ⟨g, 0, none⟩ := by injection e1
    subst e2
    refine ⟨g, 0, rfl, fun j u hu => ?_⟩
    rw [Nat.zero_add]
    have hj : j < n * k := by rw [← h.1]; exact (List.getElem?_eq_some_iff.1 hu).1
    exact (h.cellAt j hj).trans hu
/-- A function, and where its params lie. -/
structure FM where
  d : Fnc
  a : Option Addr
  c : Nat
def FM.cells (x : FM) : List Value := [.string (ofL x.d.s), .int .i64 x.d.ln, .slice x.a x.d.ps.length x.c, .int .i64 x.d.ret, .int .i64 x.d.body]
def flatF (L : List FM) : List Value := L.flatMap FM.cells
theorem flatF_more (L : List FM) (x : FM) : flatF (L ++ [x]) = flatF L ++ x.cells := by simp [flatF]
theorem FM.one (x : FM) : ∀ u ∈ x.cells, u.oneCell' = true := by
  intro u hu
  simp only [FM.cells, List.mem_cons, List.not_mem_nil, or_false] at hu
  rcases hu with rfl | rfl | rfl | rfl | rfl <;> rfl
theorem flatF_length (L : List FM) : (flatF L).length = L.length * 5 := by
  induction L with
  | nil => rfl
  | cons a L ih => show (a.cells ++ flatF L).length = _; rw [List.length_append, ih, List.length_cons]; show 5 + _ = _; omega
theorem flatN_length (L : List NM) : (flatN L).length = L.length * 5 := by
  induction L with
  | nil => rfl
  | cons a L ih => rw [flatN_cons, List.length_append, ih, List.length_cons]; show 5 + _ = _; omega
theorem flatP_length (L : List (List UInt8 × Int)) : (flatP L).length = L.length * 2 := by
  induction L with
  | nil => rfl
  | cons a L ih => show (PmV a ++ flatP L).length = _; rw [List.length_append, ih, List.length_cons]; show 2 + _ = _; omega
theorem flatF_at (L : List FM) (i j : Nat) (hi : i < L.length) (hj : j < 5) : (flatF L)[i * 5 + j]? = (L[i]).cells[j]? := by
  induction L generalizing i with
  | nil => exact absurd hi (Nat.not_lt_zero _)
  | cons a L ih =>
    show (a.cells ++ flatF L)[i * 5 + j]? = _
    cases i with
    | zero => rw [List.getElem?_append_left (by show 0 * 5 + j < 5; omega), Nat.zero_mul, Nat.zero_add]; rfl
    | succ i =>
      rw [List.getElem?_append_right (by show 5 ≤ _; omega), show (i + 1) * 5 + j - a.cells.length = i * 5 + j by show _ - 5 = _; omega]
      exact ih i (by simpa using hi)
theorem flatN_at (L : List NM) (i j : Nat) (hi : i < L.length) (hj : j < 5) : (flatN L)[i * 5 + j]? = (L[i]).cells[j]? := by
  induction L generalizing i with
  | nil => exact absurd hi (Nat.not_lt_zero _)
  | cons a L ih =>
    rw [flatN_cons]
    cases i with
    | zero => rw [List.getElem?_append_left (by show 0 * 5 + j < 5; omega), Nat.zero_mul, Nat.zero_add]; rfl
    | succ i =>
      rw [List.getElem?_append_right (by show 5 ≤ _; omega), show (i + 1) * 5 + j - a.cells.length = i * 5 + j by show _ - 5 = _; omega]
      exact ih i (by simpa using hi)
theorem info_func : (Tryd.prog.info? 36).map (fun i => (i.zero, i.size, i.bytes)) = some (some (.agg #[.string ⟨#[]⟩, .int .i64 0, .slice none 0 0, .int .i64 0, .int .i64 0]), 5, 64) := by kernel_rfl
/-- The functions so far. -/
structure FnsM (B : Nat) (w : World) (R : Nat → Prop) (v : Value) (n : Nat) (L : List FM) : Prop where
  hn : n = L.length
  own : w.ownsRow 0 36 5 v n (flatF L)
  blk : ∀ g, v.ownBlock = some g → ¬ R g ∧ B ≤ g
  ps : ∀ x ∈ L, RdG w x.a (flatP x.d.ps) ∧ (0 < (flatP x.d.ps).length → ∀ b off, x.a = some ⟨b, off, none⟩ → ¬ R b ∧ B ≤ b ∧ v.ownBlock ≠ some b)
theorem FnsM.keep {B : Nat} {w w' : World} {R R' : Nat → Prop} {v : Value} {n : Nat} {L : List FM} (h : FnsM B w R v n L) (f : Fr R w R' w') : FnsM B w' R' v n L :=
  ⟨h.hn, ownsRow_keep h.own (fun g hg => f.1.block g (own_ltk h.own hg) (h.blk g hg).1), fun g hg => ⟨fun hr => (h.blk g hg).1 (f.2 g (own_ltk h.own hg) hr), (h.blk g hg).2⟩,
    fun x hx => ⟨(h.ps x hx).1.keep f.1 (fun h0 b off e => ((h.ps x hx).2 h0 b off e).1), fun h0 b off e => ⟨fun hr => ((h.ps x hx).2 h0 b off e).1 (f.2 b ((h.ps x hx).1.lt h0 e) hr), ((h.ps x hx).2 h0 b off e).2⟩⟩⟩
theorem FnsM.keeps {B : Nat} {w w' : World} {R : Nat → Prop} {v : Value} {n : Nat} {L : List FM} (h : FnsM B w R v n L) (k : Keeps (fun _ => False) w w') : FnsM B w' R v n L := h.keep ((Fr.refl R w).keeps k)
theorem FnsM.more {B : Nat} {w w1 w5 : World} {R : Nat → Prop} {v v5 : Value} {n : Nat} {L : List FM} (h : FnsM B w R v n L) (hR : ∀ b, R b → b < w.heap.size) (hB : B ≤ w.heap.size) (k1 : Keeps (fun _ => False) w w1) (x : FM) (hx : RdG w1 x.a (flatP x.d.ps)) (hxb : 0 < (flatP x.d.ps).length → ∀ b off, x.a = some ⟨b, off, none⟩ → ¬ R b ∧ B ≤ b ∧ v.ownBlock ≠ some b)
    (ho : w5.ownsRow 0 36 5 v5 (n + 1) (flatF L ++ x.cells)) (hg : w1.grownBy w5 v.ownBlock) (hb : v5.ownBlock = v.ownBlock ∨ v5.ownBlock = some w1.heap.size) : FnsM B w5 R v5 (n + 1) (L ++ [x]) := by
  have k15 : Keeps (fun b => v.ownBlock = some b) w1 w5 := ⟨hg.os, hg.tape, hg.output, hg.size, fun b hb hn => hg.block b hb (fun e => hn e.symm)⟩
  have s1 := k1.size
  have out : ∀ b, b < w1.heap.size → v.ownBlock ≠ some b → v5.ownBlock ≠ some b := fun b hb2 hn e => by
    rcases hb with e5 | e5
    · exact hn (by rw [← e5]; exact e)
    · rw [e5] at e
      cases e
      omega
  refine ⟨by rw [List.length_append, h.hn]; rfl, by rw [flatF_more]; exact ho, fun g hg5 => ?_, fun y hy => ?_⟩
  · rcases hb with e5 | e5
    · rw [e5] at hg5
      exact h.blk g hg5
    · rw [e5] at hg5
      cases hg5
      exact ⟨fun hr => by have := hR _ hr; omega, by omega⟩
  · rcases List.mem_append.1 hy with hy | hy
    · have hy1 := (h.ps y hy).1.keep k1 (fun _ _ _ _ h => h)
      refine ⟨hy1.keep k15 (fun h0 b off e => ((h.ps y hy).2 h0 b off e).2.2), fun h0 b off e => ⟨((h.ps y hy).2 h0 b off e).1, ((h.ps y hy).2 h0 b off e).2.1, out b (hy1.lt h0 e) ((h.ps y hy).2 h0 b off e).2.2⟩⟩
    · rw [List.mem_singleton.1 hy]
      exact ⟨hx.keep k15 (fun h0 b off e => (hxb h0 b off e).2.2), fun h0 b off e => ⟨(hxb h0 b off e).1, (hxb h0 b off e).2.1, out b (hx.lt h0 e) (hxb h0 b off e).2.2⟩⟩
/-- A tree that can be read: its nodes and functions lie in blocks from B on. -/
structure TreeR (B : Nat) (w : World) (A A' : Option Addr) (nd : List Nd) (fs : List Fnc) : Prop where
  nodes : ∃ L : List NM, L.map NM.d = nd ∧ RdG w A (flatN L) ∧ ∀ x ∈ L, RdI w x.a x.d.l
  fns : ∃ L : List FM, L.map FM.d = fs ∧ RdG w A' (flatF L) ∧ ∀ x ∈ L, RdG w x.a (flatP x.d.ps)
theorem TreeR.keep {B : Nat} {w w' : World} {A A' : Option Addr} {nd : List Nd} {fs : List Fnc} (h : TreeR B w A A' nd fs) (k : Keeps (fun _ => False) w w') : TreeR B w' A A' nd fs := by
  obtain ⟨⟨L, h1, h2, h3⟩, ⟨M, h4, h5, h6⟩⟩ := h
  exact ⟨⟨L, h1, h2.keep k (fun _ _ _ _ h => h), fun x hx => (h3 x hx).keep k (fun _ _ _ _ h => h)⟩, ⟨M, h4, h5.keep k (fun _ _ _ _ h => h), fun x hx => (h6 x hx).keep k (fun _ _ _ _ h => h)⟩⟩
/-- What a parser tells. -/
def TreeE (B : Nat) (res : (Nat × Nat) ⊕ (List Nd × List Fnc)) (e : Ending) (w' : World) : Prop :=
  match res with
  | .inl pe => e = .returned (.tuple #[.agg #[.slice none 0 0, .slice none 0 0], .int .i64 (pe.1 : Int), .int .i64 (pe.2 : Int)])
  | .inr t => ∃ A c A' c', e = .returned (.tuple #[.agg #[.slice A t.1.length c, .slice A' t.2.length c'], .int .i64 0, .int .i64 0]) ∧ TreeR B w' A A' t.1 t.2
theorem fn_out {w' : World} {Af : Option Addr} {n cf Bw B : Nat} {l : List (List UInt8 × Int)} {R' : Nat → Prop} {v : Value} (ho : w'.ownsRow 0 59 2 (.slice Af n cf) n (flatP l)) (hb : ∀ g, (Value.slice Af n cf).ownBlock = some g → ¬ R' g ∧ Bw ≤ g) (hv : ∀ g, v.ownBlock = some g → g < Bw) (hB : B ≤ Bw) :
    0 < (flatP l).length → ∀ b off, Af = some ⟨b, off, none⟩ → ¬ R' b ∧ B ≤ b ∧ v.ownBlock ≠ some b := fun h0 b off e => by
  have e1 : (Value.slice Af n cf).ownBlock = some b := by rw [e]; rfl
  exact ⟨(hb b e1).1, Nat.le_trans hB (hb b e1).2, fun e2 => by have h1 := hv b e2; have h2 := (hb b e1).2; omega⟩
theorem treeE_inl {B p er : Nat} {res : (Nat × Nat) ⊕ (List Nd × List Fnc)} (h : res = .inl (p, er)) (w' : World) : TreeE B res (.returned (.tuple #[.agg #[.slice none 0 0, .slice none 0 0], .int .i64 (p : Int), .int .i64 (er : Int)])) w' := by
  rw [h]
  exact rfl
theorem treeE_inr {B : Nat} {res : (Nat × Nat) ⊕ (List Nd × List Fnc)} {nd : List Nd} {fs : List Fnc} (h : res = .inr (nd, fs)) {w' : World} {A A' : Option Addr} {c c' m n : Nat} (hm : m = nd.length) (hn : n = fs.length) (ht : TreeR B w' A A' nd fs) : TreeE B res (.returned (.tuple #[.agg #[.slice A m c, .slice A' n c'], .int .i64 0, .int .i64 0])) w' := by
  rw [h, hm, hn]
  exact ⟨A, c, A', c', rfl, ht⟩
end Go.Proofs.YtgelggdgbmldiaaDoor

namespace Go.Proofs.YtgelggdgbmldiaaDoor
open Go Go.RowKit Go.Shelf
set_option linter.unusedVariables false
set_option linter.unusedSimpArgs false
theorem results_cell_tmp3 {fn : Func} {p u v : Tmp} {ty : TypeId} (h : fn.results = #[.cell p ty, .tmp u, .tmp v]) (tmps : Array Value) (P : Program) (w : World) :
    (results fn tmps).run P w =
      ((asAddr (tmps.getD p undef)).run P w).andThen fun a w₁ => ((loadVar ty a).run P w₁).andThen fun x w₂ => .ok (.tuple #[x, tmps.getD u undef, tmps.getD v undef]) w₂ := by
  simp only [results, h]
  simp [Sem.run_bind, Result.andThen]
end Go.Proofs.YtgelggdgbmldiaaDoor

namespace Go.Proofs.YtgelggdgbmldiaaDoor
open Go Go.RowKit Go.Shelf
set_option linter.unusedVariables false
set_option linter.unusedSimpArgs false
/-- The nodes of a tree, one by one. -/
theorem TreeR.nodeAt {B : Nat} {w : World} {A A' : Option Addr} {nd : List Nd} {fs : List Fnc} (h : TreeR B w A A' nd fs) (h0 : 0 < nd.length) : ∃ b off, A = some ⟨b, off, none⟩ ∧ ∀ i (hi : i < nd.length), ∃ a c,
    w.cell? ⟨b, off + i * 5, none⟩ = some (.int .i64 (nd[i]).k) ∧ w.cell? ⟨b, off + i * 5 + 1, none⟩ = some (.int .i64 (nd[i]).ln) ∧ w.cell? ⟨b, off + i * 5 + 2, none⟩ = some (.int .i64 (nd[i]).n) ∧
    w.cell? ⟨b, off + i * 5 + 3, none⟩ = some (.string (ofL (nd[i]).s)) ∧ w.cell? ⟨b, off + i * 5 + 4, none⟩ = some (.slice a (nd[i]).l.length c) ∧ RdI w a (nd[i]).l := by
  obtain ⟨L, rfl, hr, hl⟩ := h.nodes
  rw [List.length_map] at h0
  obtain ⟨b, off, e, hc⟩ := hr (by rw [flatN_length]; omega)
  refine ⟨b, off, e, fun i hi => ?_⟩
  rw [List.length_map] at hi
  have hcc : ∀ j u, (L[i]).cells[j]? = some u → j < 5 → w.cell? ⟨b, off + i * 5 + j, none⟩ = some u := fun j u hu hj => by
    rw [Nat.add_assoc]
    exact hc (i * 5 + j) u (by rw [flatN_at L i j hi hj]; exact hu)
  simp only [List.getElem_map]
  exact ⟨(L[i]).a, (L[i]).c, hcc 0 _ rfl (by omega), hcc 1 _ rfl (by omega), hcc 2 _ rfl (by omega), hcc 3 _ rfl (by omega), hcc 4 _ rfl (by omega), hl _ (List.getElem_mem hi)⟩
/-- The functions of a tree, one by one. -/
theorem TreeR.fnAt {B : Nat} {w : World} {A A' : Option Addr} {nd : List Nd} {fs : List Fnc} (h : TreeR B w A A' nd fs) (h0 : 0 < fs.length) : ∃ b off, A' = some ⟨b, off, none⟩ ∧ ∀ i (hi : i < fs.length), ∃ a c,
    w.cell? ⟨b, off + i * 5, none⟩ = some (.string (ofL (fs[i]).s)) ∧ w.cell? ⟨b, off + i * 5 + 1, none⟩ = some (.int .i64 (fs[i]).ln) ∧ w.cell? ⟨b, off + i * 5 + 2, none⟩ = some (.slice a (fs[i]).ps.length c) ∧
    w.cell? ⟨b, off + i * 5 + 3, none⟩ = some (.int .i64 (fs[i]).ret) ∧ w.cell? ⟨b, off + i * 5 + 4, none⟩ = some (.int .i64 (fs[i]).body) ∧ RdG w a (flatP (fs[i]).ps) := by
  obtain ⟨L, rfl, hr, hl⟩ := h.fns
  rw [List.length_map] at h0
  obtain ⟨b, off, e, hc⟩ := hr (by rw [flatF_length]; omega)
  refine ⟨b, off, e, fun i hi => ?_⟩
  rw [List.length_map] at hi
  have hcc : ∀ j u, (L[i]).cells[j]? = some u → j < 5 → w.cell? ⟨b, off + i * 5 + j, none⟩ = some u := fun j u hu hj => by
    rw [Nat.add_assoc]
    exact hc (i * 5 + j) u (by rw [flatF_at L i j hi hj]; exact hu)
  simp only [List.getElem_map]
  exact ⟨(L[i]).a, (L[i]).c, hcc 0 _ rfl (by omega), hcc 1 _ rfl (by omega), hcc 2 _ rfl (by omega), hcc 3 _ rfl (by omega), hcc 4 _ rfl (by omega), hl _ (List.getElem_mem hi)⟩
end Go.Proofs.YtgelggdgbmldiaaDoor

namespace Go.Proofs.YtgelggdgbmldiaaDoor
set_option linter.unusedVariables false
set_option linter.unusedSimpArgs false
theorem Fo.roots {b : Nat} {nd : List Nd} {xs : List Int} (h : Fo b nd xs) : xs.Pairwise (· < ·) ∧ ∀ x ∈ xs, ∃ j : Nat, x = ((b + j : Nat) : Int) ∧ j < nd.length := by
  induction h with
  | nil b => exact ⟨List.Pairwise.nil, fun x hx => by cases hx⟩
  | cat h1 h2 ih1 ih2 =>
    rename_i b nd nd' xs ys
    refine ⟨List.pairwise_append.mpr ⟨ih1.1, ih2.1, ?_⟩, ?_⟩
    · intro x hx y hy
      obtain ⟨j, rfl, hj⟩ := ih1.2 x hx
      obtain ⟨k, rfl, hk⟩ := ih2.2 y hy
      omega
    · intro x hx
      rw [List.length_append]
      rcases List.mem_append.mp hx with h | h
      · obtain ⟨j, e, hj⟩ := ih1.2 x h
        exact ⟨j, e, by omega⟩
      · obtain ⟨j, e, hj⟩ := ih2.2 x h
        exact ⟨nd.length + j, by rw [e]; omega, by omega⟩
  | node n h1 h2 h3 ih =>
    rename_i b nd
    refine ⟨List.pairwise_singleton _ _, ?_⟩
    intro x hx
    rw [List.mem_singleton.mp hx]
    exact ⟨nd.length, rfl, by rw [List.length_append]; exact Nat.lt_succ_self _⟩
/-- A node and what is below it. -/
def Kid (b : Nat) (nd : List Nd) (i : Nat) (n : Nd) : Prop :=
  manyK n.k n.l.length = true ∧ n.l.Pairwise (· < ·) ∧ ∀ x ∈ n.l, ∃ (j : Nat) (m : Nd), x = ((b + j : Nat) : Int) ∧ j < i ∧ nd[j]? = some m ∧ n.ln ≤ m.ln
theorem Fo.kids {b : Nat} {nd : List Nd} {xs : List Int} (h : Fo b nd xs) : ∀ i n, nd[i]? = some n → Kid b nd i n := by
  induction h with
  | nil b => intro i n hn; simp at hn
  | cat h1 h2 ih1 ih2 =>
    rename_i b nd nd' xs ys
    intro i n hn
    by_cases hi : i < nd.length
    · rw [List.getElem?_append_left hi] at hn
      obtain ⟨k1, k2, k3⟩ := ih1 i n hn
      refine ⟨k1, k2, fun x hx => ?_⟩
      obtain ⟨j, m, e, hj, hm, hl⟩ := k3 x hx
      exact ⟨j, m, e, hj, by rw [List.getElem?_append_left (by omega)]; exact hm, hl⟩
    · rw [List.getElem?_append_right (by omega)] at hn
      obtain ⟨k1, k2, k3⟩ := ih2 (i - nd.length) n hn
      refine ⟨k1, k2, fun x hx => ?_⟩
      obtain ⟨j, m, e, hj, hm, hl⟩ := k3 x hx
      exact ⟨nd.length + j, m, by rw [e]; omega, by omega, by rw [List.getElem?_append_right (by omega), Nat.add_sub_cancel_left]; exact hm, hl⟩
  | node n h1 h2 h3 ih =>
    rename_i b nd
    intro i n' hn
    by_cases hi : i < nd.length
    · rw [List.getElem?_append_left hi] at hn
      obtain ⟨k1, k2, k3⟩ := ih i n' hn
      refine ⟨k1, k2, fun x hx => ?_⟩
      obtain ⟨j, m, e, hj, hm, hl⟩ := k3 x hx
      exact ⟨j, m, e, hj, by rw [List.getElem?_append_left (by omega)]; exact hm, hl⟩
    · have hi2 : i = nd.length := by
        have := (List.getElem?_eq_some_iff.mp hn).1
        rw [List.length_append] at this
        have h1 : [n].length = 1 := rfl
        omega
      subst hi2
      rw [List.getElem?_append_right (Nat.le_refl _), Nat.sub_self] at hn
      obtain rfl : n = n' := Option.some.inj hn
      refine ⟨h3, h1.roots.1, fun x hx => ?_⟩
      obtain ⟨j, e, hj⟩ := h1.roots.2 x hx
      exact ⟨j, nd[j], e, hj, by rw [List.getElem?_append_left hj]; exact List.getElem?_eq_getElem hj, h2 _ (List.getElem_mem hj)⟩
theorem Fo.count {b : Nat} {nd : List Nd} {xs : List Int} (h : Fo b nd xs) (v : Int) : (nd.flatMap Nd.l).count v + xs.count v = if (b : Int) ≤ v ∧ v < (b : Int) + nd.length then 1 else 0 := by
  induction h with
  | nil b => rw [if_neg (by rintro ⟨h1, h2⟩; simp at h2; omega)]; rfl
  | cat h1 h2 ih1 ih2 =>
    rename_i b nd nd' xs ys
    rw [List.flatMap_append, List.count_append, List.count_append, List.length_append]
    rw [Int.natCast_add] at ih2 ⊢
    by_cases c1 : (b : Int) ≤ v ∧ v < (b : Int) + nd.length
    · rw [if_pos c1] at ih1
      rw [if_neg (by omega)] at ih2
      rw [if_pos (by omega)]
      omega
    · rw [if_neg c1] at ih1
      by_cases c2 : (b : Int) + nd.length ≤ v ∧ v < (b : Int) + nd.length + nd'.length
      · rw [if_pos c2] at ih2
        rw [if_pos (by omega)]
        omega
      · rw [if_neg c2] at ih2
        rw [if_neg (by omega)]
        omega
  | node n h1 h2 h3 ih =>
    rename_i b nd
    have hf : ([n].flatMap Nd.l) = n.l := by simp
    rw [List.flatMap_append, List.count_append, hf, ih, List.length_append]
    have h0 : [n].length = 1 := rfl
    rw [h0]
    by_cases hv : v = ((b + nd.length : Nat) : Int)
    · rw [if_neg (by omega), if_pos (by omega), hv]
      simp
    · rw [List.count_eq_zero_of_not_mem (by simpa using hv)]
      by_cases c : (b : Int) ≤ v ∧ v < (b : Int) + nd.length
      · rw [if_pos c, if_pos (by omega)]
      · rw [if_neg c, if_neg (by omega)]
theorem line_up (l : List UInt8) (a : Int) (k : Nat) : lineL l a ≤ lineL l (a + k) := by
  induction k with
  | zero => exact Nat.le_of_eq (by rw [show a + ((0 : Nat) : Int) = a by omega])
  | succ k ih =>
    rw [show a + ((k + 1 : Nat) : Int) = a + k + 1 by omega, line_next]
    omega
theorem pl_up (s : List UInt8) : ∀ (T : List Tok) (e : Nat), Pl s e T → ∀ i j, i ≤ j → j < T.length → e ≤ (T.getD i default).p ∧ (T.getD i default).p ≤ (T.getD j default).p := by
  intro T
  induction T with
  | nil => intro e h; exact absurd h (fun h => h)
  | cons t ts ih =>
    intro e h i j hij hj
    obtain ⟨h1, h2, h3, h4⟩ := h
    rcases h4 with ⟨rfl, rfl⟩ | ⟨hne, _, _, _, h8⟩
    · have : j = 0 := by simp at hj; exact hj
      subst this
      obtain rfl : i = 0 := by omega
      exact ⟨h1, Nat.le_refl _⟩
    · cases j with
      | zero =>
        obtain rfl : i = 0 := by omega
        exact ⟨h1, Nat.le_refl _⟩
      | succ j =>
        rw [List.length_cons] at hj
        cases i with
        | zero =>
          have := ih _ h8 0 j (Nat.zero_le _) (by omega)
          exact ⟨h1, by show t.p ≤ (ts.getD j default).p; omega⟩
        | succ i =>
          have := ih _ h8 i j (by omega) (by omega)
          exact ⟨by show e ≤ (ts.getD i default).p; omega, this.2⟩
theorem lexL_LnT (src : List UInt8) (h : (lexL src 0).2 = none) : LnT src (lexL src 0).1 := by
  have hp := lexL_places src src 0 0 rfl (Nat.zero_le _) (Nat.le_refl _) (by simpa using gap_nil) h
  refine ⟨List.length_pos_iff.mpr (lexL_ne src 0 h), ?_⟩
  intro i j hij hj
  obtain ⟨h1, h2⟩ := pl_up src _ 0 hp i j hij hj
  have h3 := line_up src ((((lexL src 0).1.getD i default).p : Nat) : Int) (((lexL src 0).1.getD j default).p - ((lexL src 0).1.getD i default).p)
  rwa [show ((((lexL src 0).1.getD i default).p : Nat) : Int) + (((((lexL src 0).1.getD j default).p - ((lexL src 0).1.getD i default).p : Nat)) : Int) = ((((lexL src 0).1.getD j default).p : Nat) : Int) by omega] at h3
/-- What ParseBelow asks of a tree. -/
structure BelowT (nd : List Nd) (fs : List Fnc) : Prop where
  kids : ∀ i n, nd[i]? = some n → Kid 0 nd i n
  bods : ∀ f ∈ fs, ∃ (j : Nat) (m : Nd), f.body = (j : Int) ∧ nd[j]? = some m ∧ m.k = 18
  ones : ∀ j : Nat, j < nd.length → (nd.flatMap Nd.l).count (j : Int) + (fs.map Fnc.body).count (j : Int) = 1
  many : nd.length ≤ 300
  fns : fs.length ≤ 6
theorem belowT_of (N : Nat) (src : List UInt8) (nd : List Nd) (fs : List Fnc) (h : allP N src = some (.inr (nd, fs))) : BelowT nd fs := by
  unfold allP at h
  split at h
  · cases h
  split at h
  · cases h
  rename_i hn
  have hL := lexL_LnT src hn
  cases hr : fnsR src (lexL src 0).1 N N [] ⟨0, 0, 0, [], 0⟩ with
  | none => rw [hr] at h; cases h
  | some r =>
    rw [hr] at h
    obtain ⟨l, s⟩ := r
    have h1 : treeP l s = .inr (nd, fs) := Option.some.inj h
    obtain ⟨g, hb⟩ := fns_p hL (N := N) (s0 := ⟨0, 0, 0, [], 0⟩) N [] ⟨0, 0, 0, [], 0⟩ (G.self hL.1) (fun f hf => by cases hf) l s hr
    unfold treeP at h1
    split at h1
    · split at h1
      · cases h1
      · rename_i hc
        cases h1
        simp only [Bool.or_eq_true, decide_eq_true_eq, not_or] at hc
        obtain ⟨_, _, nd', hnd, hF, _⟩ := g
        have hnd : s.nd = nd' := hnd
        subst hnd
        have hF : Fo 0 s.nd (fs.map Fnc.body) := hF
        refine ⟨hF.kids, ?_, ?_, by omega, by omega⟩
        · intro f hf
          obtain ⟨b1, b2⟩ := hb f hf
          obtain ⟨j, e, hj⟩ := hF.roots.2 f.body (List.mem_map_of_mem hf)
          rw [Nat.zero_add] at e
          refine ⟨j, s.nd[j], e, List.getElem?_eq_getElem hj, ?_⟩
          rw [e, Int.toNat_natCast, List.getD_eq_getElem?_getD, List.getElem?_eq_getElem hj] at b1
          exact b1
        · intro j hj
          have := hF.count (j : Int)
          rw [if_pos (by omega)] at this
          exact this
    · cases h1
end Go.Proofs.YtgelggdgbmldiaaDoor
