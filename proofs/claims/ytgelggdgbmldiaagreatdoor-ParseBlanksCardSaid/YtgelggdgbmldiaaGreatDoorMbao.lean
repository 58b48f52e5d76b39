/-
  Layer 2: what a lexer's tokens are like. Written by an AI agent.
  Layer 2: a tree in memory. Written by an AI agent.
  Layer 2: All: an error of the lexer. Written by an AI agent.
  Layer 2: All. Written by an AI agent.
  Layer 2: the contract of All. Written by an AI agent.
  Layer 2: the document's example. Written by an AI agent.
  Layer 2: two trees that are the same. Written by an AI agent.
-/
import Derived.Test.YtgelggdgbmldiaaGreatDoorMbag
import Derived.Test.YtgelggdgbmldiaaGreatDoorMban
import Derived.Deep.LoopGhost
import Derived.Laws.StructEq
namespace Go.Proofs.YtgelggdgbmldiaaGreatDoor
open Go.RowKit Go.Shelf
set_option linter.unusedVariables false
set_option linter.unusedSimpArgs false

/-- A token that is not the end. -/
def TokIn (m : Nat) (t : Tok) : Prop := t.k ≠ 0 ∧ (t.k = 1 → t.x ≠ [] ∧ (∀ c ∈ t.x, dig c = true) ∧ numV t.x ≤ 9223372036854775807) ∧ t.x.length ≤ m ∧ t.p ≤ m
def TokL (m : Nat) (T : List Tok) : Prop := ∃ I e, T = I ++ [e] ∧ e.k = 0 ∧ e.x = [] ∧ e.p ≤ m ∧ ∀ t ∈ I, TokIn m t

theorem first_tok (l : List UInt8) (h : (firstL l).2.2 = 0) (hl : l ≠ []) : (firstL l).1 ≠ 0 ∧ ((firstL l).1 = 1 → saidL (firstL l).1 (l.take (firstL l).2.1) ≠ [] ∧ (∀ c ∈ saidL (firstL l).1 (l.take (firstL l).2.1), dig c = true) ∧ numV (saidL (firstL l).1 (l.take (firstL l).2.1)) ≤ 9223372036854775807) := by
  obtain ⟨c, r, rfl⟩ := List.exists_cons_of_ne_nil hl
  rw [firstL_cons] at h ⊢
  by_cases h1 : dig c = true
  · rw [if_pos h1] at h ⊢
    have hr : runL dig (c :: r) = runL dig r + 1 := by show (if dig c then _ else 0) = _; rw [if_pos h1]
    unfold numberL at h ⊢
    split at h
    · rename_i hc
      rw [if_pos hc]
      refine ⟨by simp, fun _ => ?_⟩
      show saidL 1 _ ≠ [] ∧ _
      have e : saidL 1 ((c :: r).take (runL dig (c :: r))) = (c :: r).take (runL dig (c :: r)) := if_neg (by decide)
      rw [show (((1 : Nat), runL dig (c :: r), (0 : Nat)) : Nat × Nat × Nat).2.1 = runL dig (c :: r) from rfl, show (((1 : Nat), runL dig (c :: r), (0 : Nat)) : Nat × Nat × Nat).1 = 1 from rfl, e]
      refine ⟨?_, runL_all dig (c :: r), hc.1⟩
      rw [hr]
      simp
    · cases h
  · rw [if_neg h1] at h ⊢
    by_cases h2 : ltr c = true
    · rw [if_pos h2] at h ⊢
      unfold nameL at h ⊢
      split
      · exact ⟨by simp, fun h => by simp at h⟩
      · rename_i hw
        rw [if_neg hw] at h
        split
        · rename_i h8
          rw [if_pos h8] at h
          cases h
        · exact ⟨by simp, fun h => by simp at h⟩
    · rw [if_neg h2] at h ⊢
      by_cases h3 : c = 34
      · rw [if_pos h3] at h ⊢
        unfold textL at h ⊢
        split
        · rename_i hw
          rw [if_pos hw] at h
          split
          · rename_i h8
            rw [if_pos h8] at h
            cases h
          · exact ⟨by simp, fun h => by simp at h⟩
        · rename_i hw
          rw [if_neg hw] at h
          cases h
      · rw [if_neg h3] at h ⊢
        unfold signL at h ⊢
        split
        · exact ⟨by simp, fun h => by simp at h⟩
        · rename_i hw
          rw [if_neg hw] at h
          split
          · exact ⟨by simp, fun h => by simp at h⟩
          · rename_i h8
            rw [if_neg h8] at h
            cases h

theorem said_len (k : Nat) (l : List UInt8) : (saidL k l).length ≤ l.length := by
  unfold saidL
  split
  · rw [List.length_drop, List.length_take]; omega
  · exact Nat.le_refl _

theorem lex_tokL (m : Nat) (l : List UInt8) (p : Nat) : p + l.length ≤ m → (lexL l p).2 = none → TokL m (lexL l p).1 := by
  refine lexL_ind (P := fun l p => p + l.length ≤ m → (lexL l p).2 = none → TokL m (lexL l p).1) ?_ ?_ ?_ ?_ ?_ ?_ l p
  · intro p hm _
    exact ⟨[], ⟨0, [], p⟩, rfl, rfl, rfl, by simpa using hm, fun t ht => by cases ht⟩
  · intro c r p h ih hm he
    rw [lexL_blank h] at he ⊢
    exact ih (by rw [List.length_cons] at hm; omega) he
  · intro c r p h h1 h2 hm he
    rw [lexL_rem_end h h1 h2]
    exact ⟨[], ⟨0, [], p + (c :: r).length⟩, rfl, rfl, rfl, hm, fun t ht => by cases ht⟩
  · intro c r p h h1 h2 ih hm he
    rw [lexL_rem h h1 h2] at he ⊢
    refine ih ?_ he
    have := runL_le (fun d => !decide (d = 10)) (c :: r)
    rw [List.length_drop]
    omega
  · intro c r p h h1 h2 hm he
    rw [lexL_bad h h1 h2] at he
    cases he
  · intro c r p h h1 h2 ih hm he
    have hs := first_size (c :: r) (by simp) h2
    have hf := first_tok (c :: r) h2 (by simp)
    rw [lexL_tok h h1 h2] at he ⊢
    obtain ⟨I, e, hT, h3, h4, h5, h6⟩ := ih (by rw [List.length_drop]; omega) he
    refine ⟨⟨(firstL (c :: r)).1, saidL (firstL (c :: r)).1 ((c :: r).take (firstL (c :: r)).2.1), p⟩ :: I, e, by rw [hT]; rfl, h3, h4, h5, fun t ht => ?_⟩
    rcases List.mem_cons.1 ht with rfl | ht
    · refine ⟨hf.1, hf.2, ?_, by show p ≤ m; omega⟩
      have h7 := said_len (firstL (c :: r)).1 ((c :: r).take (firstL (c :: r)).2.1)
      rw [List.length_take] at h7
      show (saidL _ _).length ≤ m
      omega
    · exact h6 t ht

theorem tokOK_of {m : Nat} {T : List Tok} (h : TokL m T) (hm : m ≤ 1000) (hl : T.length ≤ 1000) : TokOK T := by
  obtain ⟨I, e, rfl, h1, h2, h3, h4⟩ := h
  have hL : (I ++ [e]).length - 1 = I.length := by simp
  have hlast : (I ++ [e]).getD I.length default = e := by simp [List.getD]
  have hin : ∀ i, i < I.length → TokIn m ((I ++ [e]).getD i default) := fun i hi => by
    have : (I ++ [e]).getD i default = I[i] := by rw [List.getD, List.getElem?_append_left hi, List.getElem?_eq_getElem hi]; rfl
    rw [this]
    exact h4 _ (List.getElem_mem _)
  have all : ∀ i, i < (I ++ [e]).length → i < I.length ∨ i = I.length := fun i hi => by rw [List.length_append, List.length_singleton] at hi; omega
  refine ⟨by simp, hl, by rw [hL, hlast]; exact h1, fun i hi => (hin i (by rw [hL] at hi; exact hi)).1, fun i hi hk => ?_, fun i hi => ?_, fun i hi => ?_⟩
  · rcases all i hi with h5 | rfl
    · exact (hin i h5).2.1 hk
    · rw [hlast, h1] at hk; cases hk
  · rcases all i hi with h5 | rfl
    · exact Nat.le_trans (hin i h5).2.2.1 hm
    · rw [hlast, h2]; exact Nat.zero_le _
  · rcases all i hi with h5 | rfl
    · exact Nat.le_trans (hin i h5).2.2.2 hm
    · rw [hlast]; exact Nat.le_trans h3 hm

theorem tokOK_lex (l : List UInt8) (hl : l.length ≤ 600) (h : (lexL l 0).2 = none) : TokOK (lexL l 0).1 :=
  tokOK_of (lex_tokL 600 l 0 (by omega) h) (by omega) (by have := tokens_le l 0; omega)

end Go.Proofs.YtgelggdgbmldiaaGreatDoor

namespace Go.Proofs.YtgelggdgbmldiaaGreatDoor
open Go Go.RowKit Go.Shelf
set_option linter.unusedVariables false
set_option linter.unusedSimpArgs false

/-- A row of elements of k cells each, where it lies. -/
def RdG (w : World) (a : Option Addr) (xs : List Value) : Prop := 0 < xs.length → ∃ b off, a = some ⟨b, off, none⟩ ∧ ∀ k u, xs[k]? = some u → w.cell? ⟨b, off + k, none⟩ = some u
theorem RdG.keep {w w' : World} {S : Nat → Prop} {a : Option Addr} {xs : List Value} (h : RdG w a xs) (hk : Keeps S w w') (hr : 0 < xs.length → ∀ b off, a = some ⟨b, off, none⟩ → ¬ S b) : RdG w' a xs := fun h0 => by
  obtain ⟨b, off, e, hc⟩ := h h0
  exact ⟨b, off, e, fun k u hu => (hk.cell (cell_ltk (hc k u hu)) (hr h0 b off e)).trans (hc k u hu)⟩
theorem RdG.lt {w : World} {a : Option Addr} {xs : List Value} (h : RdG w a xs) (h0 : 0 < xs.length) {b off : Nat} (e : a = some ⟨b, off, none⟩) : b < w.heap.size := by
  obtain ⟨b', off', e', hc⟩ := h h0
  rw [e] at e'
  cases e'
  exact cell_ltk (hc 0 xs[0] (List.getElem?_eq_getElem h0))
theorem own_rdG {w : World} {e : TypeId} {k : Nat} {A : Option Addr} {n c : Nat} {xs : List Value} (h : w.ownsRow 0 e k (.slice A n c) n xs) : RdG w A xs := fun h0 => by
  rcases h.2 with ⟨e1, h1⟩ | ⟨g, cap, cur, e1, _⟩
  · rw [h.1, h1] at h0
    omega
  · have e2 : A = some ⟨g, 0, none⟩ := by injection e1
    subst e2
    refine ⟨g, 0, rfl, fun j u hu => ?_⟩
    rw [Nat.zero_add]
    have hj : j < n * k := by rw [← h.1]; exact (List.getElem?_eq_some_iff.1 hu).1
    exact (h.cellAt j hj).trans hu
theorem own_new {w : World} {e : TypeId} {k : Nat} {A : Option Addr} {n c : Nat} {xs : List Value} (h : w.ownsRow 0 e k (.slice A n c) n xs) (h0 : 0 < xs.length) {b off : Nat} (ea : A = some ⟨b, off, none⟩) : (Value.slice A n c).ownBlock = some b := by
  rw [ea]
  rfl

/-- A function, and where its params lie. -/
structure FM where
  d : Fnc
  a : Option Addr
  c : Nat
def FM.cells (x : FM) : List Value := [.string (ofL x.d.s), .int .i64 x.d.ln, .slice x.a x.d.ps.length x.c, .int .i64 x.d.ret, .int .i64 x.d.body]
def flatF (L : List FM) : List Value := L.flatMap FM.cells
theorem flatF_more (L : List FM) (x : FM) : flatF (L ++ [x]) = flatF L ++ x.cells := by simp [flatF]
theorem FM.one (x : FM) : ∀ u ∈ x.cells, u.oneCell' = true := by
  intro u hu
  simp only [FM.cells, List.mem_cons, List.not_mem_nil, or_false] at hu
  rcases hu with rfl | rfl | rfl | rfl | rfl <;> rfl
theorem flatF_length (L : List FM) : (flatF L).length = L.length * 5 := by
  induction L with
  | nil => rfl
  | cons a L ih => show (a.cells ++ flatF L).length = _; rw [List.length_append, ih, List.length_cons]; show 5 + _ = _; omega
theorem flatN_length (L : List NM) : (flatN L).length = L.length * 5 := by
  induction L with
  | nil => rfl
  | cons a L ih => rw [flatN_cons, List.length_append, ih, List.length_cons]; show 5 + _ = _; omega
theorem flatP_length (L : List (List UInt8 × Int)) : (flatP L).length = L.length * 2 := by
  induction L with
  | nil => rfl
  | cons a L ih => show (PmV a ++ flatP L).length = _; rw [List.length_append, ih, List.length_cons]; show 2 + _ = _; omega
theorem flatF_at (L : List FM) (i j : Nat) (hi : i < L.length) (hj : j < 5) : (flatF L)[i * 5 + j]? = (L[i]).cells[j]? := by
  induction L generalizing i with
  | nil => exact absurd hi (Nat.not_lt_zero _)
  | cons a L ih =>
    show (a.cells ++ flatF L)[i * 5 + j]? = _
    cases i with
    | zero => rw [List.getElem?_append_left (by show 0 * 5 + j < 5; omega), Nat.zero_mul, Nat.zero_add]; rfl
    | succ i =>
      rw [List.getElem?_append_right (by show 5 ≤ _; omega), show (i + 1) * 5 + j - a.cells.length = i * 5 + j by show _ - 5 = _; omega]
      exact ih i (by simpa using hi)
theorem flatN_at (L : List NM) (i j : Nat) (hi : i < L.length) (hj : j < 5) : (flatN L)[i * 5 + j]? = (L[i]).cells[j]? := by
  induction L generalizing i with
  | nil => exact absurd hi (Nat.not_lt_zero _)
  | cons a L ih =>
    rw [flatN_cons]
    cases i with
    | zero => rw [List.getElem?_append_left (by show 0 * 5 + j < 5; omega), Nat.zero_mul, Nat.zero_add]; rfl
    | succ i =>
      rw [List.getElem?_append_right (by show 5 ≤ _; omega), show (i + 1) * 5 + j - a.cells.length = i * 5 + j by show _ - 5 = _; omega]
      exact ih i (by simpa using hi)
theorem info_func : (Tryz.prog.info? 45).map (fun i => (i.zero, i.size, i.bytes)) = some (some (.agg #[.string ⟨#[]⟩, .int .i64 0, .slice none 0 0, .int .i64 0, .int .i64 0]), 5, 64) := by kernel_rfl

/-- The functions so far. -/
structure FnsM (B : Nat) (w : World) (R : Nat → Prop) (v : Value) (n : Nat) (L : List FM) : Prop where
  hn : n = L.length
  own : w.ownsRow 0 45 5 v n (flatF L)
  blk : ∀ g, v.ownBlock = some g → ¬ R g ∧ B ≤ g
  ps : ∀ x ∈ L, RdG w x.a (flatP x.d.ps) ∧ (0 < (flatP x.d.ps).length → ∀ b off, x.a = some ⟨b, off, none⟩ → ¬ R b ∧ B ≤ b ∧ v.ownBlock ≠ some b)
theorem FnsM.keep {B : Nat} {w w' : World} {R R' : Nat → Prop} {v : Value} {n : Nat} {L : List FM} (h : FnsM B w R v n L) (f : Fr R w R' w') : FnsM B w' R' v n L :=
  ⟨h.hn, ownsRow_keep h.own (fun g hg => f.1.block g (own_ltk h.own hg) (h.blk g hg).1), fun g hg => ⟨fun hr => (h.blk g hg).1 (f.2 g (own_ltk h.own hg) hr), (h.blk g hg).2⟩,
    fun x hx => ⟨(h.ps x hx).1.keep f.1 (fun h0 b off e => ((h.ps x hx).2 h0 b off e).1), fun h0 b off e => ⟨fun hr => ((h.ps x hx).2 h0 b off e).1 (f.2 b ((h.ps x hx).1.lt h0 e) hr), ((h.ps x hx).2 h0 b off e).2⟩⟩⟩
theorem FnsM.keeps {B : Nat} {w w' : World} {R : Nat → Prop} {v : Value} {n : Nat} {L : List FM} (h : FnsM B w R v n L) (k : Keeps (fun _ => False) w w') : FnsM B w' R v n L := h.keep ((Fr.refl R w).keeps k)
theorem FnsM.more {B : Nat} {w w1 w5 : World} {R : Nat → Prop} {v v5 : Value} {n : Nat} {L : List FM} (h : FnsM B w R v n L) (hR : ∀ b, R b → b < w.heap.size) (hB : B ≤ w.heap.size) (k1 : Keeps (fun _ => False) w w1) (x : FM) (hx : RdG w1 x.a (flatP x.d.ps)) (hxb : 0 < (flatP x.d.ps).length → ∀ b off, x.a = some ⟨b, off, none⟩ → ¬ R b ∧ B ≤ b ∧ v.ownBlock ≠ some b)
    (ho : w5.ownsRow 0 45 5 v5 (n + 1) (flatF L ++ x.cells)) (hg : w1.grownBy w5 v.ownBlock) (hb : v5.ownBlock = v.ownBlock ∨ v5.ownBlock = some w1.heap.size) : FnsM B w5 R v5 (n + 1) (L ++ [x]) := by
  have k15 : Keeps (fun b => v.ownBlock = some b) w1 w5 := ⟨hg.os, hg.tape, hg.output, hg.size, fun b hb hn => hg.block b hb (fun e => hn e.symm)⟩
  have s1 := k1.size
  have out : ∀ b, b < w1.heap.size → v.ownBlock ≠ some b → v5.ownBlock ≠ some b := fun b hb2 hn e => by
    rcases hb with e5 | e5
    · exact hn (by rw [← e5]; exact e)
    · rw [e5] at e
      cases e
      omega
  refine ⟨by rw [List.length_append, h.hn]; rfl, by rw [flatF_more]; exact ho, fun g hg5 => ?_, fun y hy => ?_⟩
  · rcases hb with e5 | e5
    · rw [e5] at hg5
      exact h.blk g hg5
    · rw [e5] at hg5
      cases hg5
      exact ⟨fun hr => by have := hR _ hr; omega, by omega⟩
  · rcases List.mem_append.1 hy with hy | hy
    · have hy1 := (h.ps y hy).1.keep k1 (fun _ _ _ _ h => h)
      refine ⟨hy1.keep k15 (fun h0 b off e => ((h.ps y hy).2 h0 b off e).2.2), fun h0 b off e => ⟨((h.ps y hy).2 h0 b off e).1, ((h.ps y hy).2 h0 b off e).2.1, out b (hy1.lt h0 e) ((h.ps y hy).2 h0 b off e).2.2⟩⟩
    · rw [List.mem_singleton.1 hy]
      exact ⟨hx.keep k15 (fun h0 b off e => (hxb h0 b off e).2.2), fun h0 b off e => ⟨(hxb h0 b off e).1, (hxb h0 b off e).2.1, out b (hx.lt h0 e) (hxb h0 b off e).2.2⟩⟩

/-- A tree that can be read: its nodes and functions lie in blocks from B on. -/
structure TreeR (B : Nat) (w : World) (A A' : Option Addr) (nd : List Nd) (fs : List Fnc) : Prop where
  nodes : ∃ L : List NM, L.map NM.d = nd ∧ RdG w A (flatN L) ∧ ∀ x ∈ L, RdI w x.a x.d.l
  fns : ∃ L : List FM, L.map FM.d = fs ∧ RdG w A' (flatF L) ∧ ∀ x ∈ L, RdG w x.a (flatP x.d.ps)
theorem TreeR.keep {B : Nat} {w w' : World} {A A' : Option Addr} {nd : List Nd} {fs : List Fnc} (h : TreeR B w A A' nd fs) (k : Keeps (fun _ => False) w w') : TreeR B w' A A' nd fs := by
  obtain ⟨⟨L, h1, h2, h3⟩, ⟨M, h4, h5, h6⟩⟩ := h
  exact ⟨⟨L, h1, h2.keep k (fun _ _ _ _ h => h), fun x hx => (h3 x hx).keep k (fun _ _ _ _ h => h)⟩, ⟨M, h4, h5.keep k (fun _ _ _ _ h => h), fun x hx => (h6 x hx).keep k (fun _ _ _ _ h => h)⟩⟩

/-- What a parser tells. -/
def TreeE (B : Nat) (res : (Nat × Nat) ⊕ (List Nd × List Fnc)) (e : Ending) (w' : World) : Prop :=
  match res with
  | .inl pe => e = .returned (.tuple #[.agg #[.slice none 0 0, .slice none 0 0], .int .i64 (pe.1 : Int), .int .i64 (pe.2 : Int)])
  | .inr t => ∃ A c A' c', e = .returned (.tuple #[.agg #[.slice A t.1.length c, .slice A' t.2.length c'], .int .i64 0, .int .i64 0]) ∧ TreeR B w' A A' t.1 t.2

/-- What a parser in memory and its functions are as a tree. -/
theorem tree_of {B : Nat} {w : World} {P : Nat} {src : ByteArray} {T : List Tok} {R : Nat → Prop} {s : PS} {n : Nat} {L : List FM} {A' : Option Addr} {c' : Nat} (hp : Par w P src T R s) (hf : FnsM B w R (.slice A' n c') n L) :
    ∃ A c, w.cell? ⟨P, 5, none⟩ = some (.slice A s.nd.length c) ∧ TreeR 0 w A A' s.nd (L.map FM.d) := by
  obtain ⟨A0, cT, v, M, h⟩ := hp
  obtain ⟨A, c, rfl⟩ := own_formk h.own
  have hl : M.length = s.nd.length := by rw [← h.nd, List.length_map]
  refine ⟨A, c, by rw [← hl]; exact h.c5, ⟨M, h.nd, own_rdG h.own, fun x hx => (h.ls x hx).1⟩, ⟨L, rfl, own_rdG hf.own, fun x hx => (hf.ps x hx).1⟩⟩

theorem FnsM.keepC {B : Nat} {w w' : World} {R : Nat → Prop} {v : Value} {n : Nat} {L : List FM} (h : FnsM B w R v n L) {C : Nat} (k : Keeps (fun b => b = C) w w') (hC : C < B) : FnsM B w' R v n L :=
  ⟨h.hn, ownsRow_keep h.own (fun g hg => k.block g (own_ltk h.own hg) (fun e => by have := (h.blk g hg).2; have e : g = C := e; omega)), h.blk,
    fun x hx => ⟨(h.ps x hx).1.keep k (fun h0 b off e e2 => by have := ((h.ps x hx).2 h0 b off e).2.1; have e2 : b = C := e2; omega), (h.ps x hx).2⟩⟩
theorem fn_out {w' : World} {Af : Option Addr} {n cf Bw B : Nat} {l : List (List UInt8 × Int)} {R' : Nat → Prop} {v : Value} (ho : w'.ownsRow 0 58 2 (.slice Af n cf) n (flatP l)) (hb : ∀ g, (Value.slice Af n cf).ownBlock = some g → ¬ R' g ∧ Bw ≤ g) (hv : ∀ g, v.ownBlock = some g → g < Bw) (hB : B ≤ Bw) :
    0 < (flatP l).length → ∀ b off, Af = some ⟨b, off, none⟩ → ¬ R' b ∧ B ≤ b ∧ v.ownBlock ≠ some b := fun h0 b off e => by
  have e1 : (Value.slice Af n cf).ownBlock = some b := by rw [e]; rfl
  exact ⟨(hb b e1).1, Nat.le_trans hB (hb b e1).2, fun e2 => by have h1 := hv b e2; have h2 := (hb b e1).2; omega⟩
theorem small_next {L : List FM} {i : Nat} (hs : ∀ j (hj : j < L.length), j < i → ¬ 3 < (L[j]).d.ps.length) (hi : i < L.length) (h : ¬ 3 < (L[i]).d.ps.length) : ∀ j (hj : j < L.length), j < i + 1 → ¬ 3 < (L[j]).d.ps.length := fun j hj hji => by
  by_cases e : j = i
  · subst e
    exact h
  · exact hs j hj (by omega)
theorem treeE_inl {B p er : Nat} {res : (Nat × Nat) ⊕ (List Nd × List Fnc)} (h : res = .inl (p, er)) (w' : World) : TreeE B res (.returned (.tuple #[.agg #[.slice none 0 0, .slice none 0 0], .int .i64 (p : Int), .int .i64 (er : Int)])) w' := by
  rw [h]
  exact rfl
theorem treeE_inr {B : Nat} {res : (Nat × Nat) ⊕ (List Nd × List Fnc)} {nd : List Nd} {fs : List Fnc} (h : res = .inr (nd, fs)) {w' : World} {A A' : Option Addr} {c c' m n : Nat} (hm : m = nd.length) (hn : n = fs.length) (ht : TreeR B w' A A' nd fs) : TreeE B res (.returned (.tuple #[.agg #[.slice A m c, .slice A' n c'], .int .i64 0, .int .i64 0])) w' := by
  rw [h, hm, hn]
  exact ⟨A, c, A', c', rfl, ht⟩

theorem tree_of2 {B : Nat} {w w' : World} {P C : Nat} {src : ByteArray} {T : List Tok} {R : Nat → Prop} {s : PS} {n m : Nat} {L : List FM} {A A' : Option Addr} {c c' : Nat} (hp : Par w P src T R s) (hf : FnsM B w R (.slice A' n c') n L) (h5 : w.cell? ⟨P, 5, none⟩ = some (.slice A m c)) (k : Keeps (fun b => b = C) w w') (hR : ¬ R C) (hC : C < B) :
    TreeR 0 w' A A' s.nd (L.map FM.d) := by
  obtain ⟨A0, cT, v, M, h⟩ := hp
  have e := h.c5.symm.trans h5
  injection e with e
  subst e
  have hq := hf.keepC k hC
  have hm : m = M.length := by
    rcases h.own.2 with ⟨e1, h1⟩ | ⟨g, cap, cur, e1, _⟩
    · injection e1 with _ e2 _
      omega
    · injection e1
  subst hm
  refine ⟨⟨M, h.nd, (own_rdG h.own).keep k (fun h0 b off e hc => hR (by have hc : b = C := hc; rw [← hc]; exact (h.vb b (by rw [e]; rfl)).1)), fun x hx => (h.ls x hx).1.keep k (fun h0 b off e hc => hR (by have hc : b = C := hc; rw [← hc]; exact ((h.ls x hx).2 h0 b off e).1))⟩, ⟨L, rfl, own_rdG hq.own, fun x hx => (hq.ps x hx).1⟩⟩

end Go.Proofs.YtgelggdgbmldiaaGreatDoor

namespace Go.Proofs.YtgelggdgbmldiaaGreatDoor
open Go Go.RowKit Go.Shelf
set_option linter.unusedVariables false
set_option linter.unusedSimpArgs false

theorem results_cell_tmp3 {fn : Func} {p u v : Tmp} {ty : TypeId} (h : fn.results = #[.cell p ty, .tmp u, .tmp v]) (tmps : Array Value) (P : Program) (w : World) :
    (results fn tmps).run P w =
      ((asAddr (tmps.getD p undef)).run P w).andThen fun a w₁ => ((loadVar ty a).run P w₁).andThen fun x w₂ => .ok (.tuple #[x, tmps.getD u undef, tmps.getD v undef]) w₂ := by
  simp only [results, h]
  simp [Sem.run_bind, Result.andThen]

set_option maxRecDepth 100000 in
set_option maxHeartbeats 16000000 in
theorem pall_err (s : ByteArray) (w : World) (p er : Nat) (her : er ≠ 0) (LC : ∀ w1, Keeps (fun _ => False) w w1 → Calls Tryz.prog 14 #[.string s] w1 fun e w' => e = .returned (.tuple #[.slice none 0 0, .int .i64 (p : Int), .int .i64 (er : Int)]) ∧ Keeps (fun _ => False) w1 w') :
    Calls Tryz.prog 8 #[.string s] w fun e w' => e = .returned (.tuple #[.agg #[.slice none 0 0, .slice none 0 0], .int .i64 (p : Int), .int .i64 (er : Int)]) ∧ Keeps (fun _ => False) w w' := by
  have HLC := Lib.hid LC
  have hd : ((er : Int) != 0) = true := by simp; omega
  obtain ⟨ei, hei⟩ : ∃ ei : Int, ei = er := ⟨_, rfl⟩
  rw [← hei] at hd HLC ⊢
  obtain ⟨pi, hpi⟩ : ∃ pi : Int, pi = p := ⟨_, rfl⟩
  rw [← hpi] at HLC ⊢
  clear LC hei hpi her
  go_enter Tryz.func8, Tryz.ntmps8
  go_upto_region 1 with fail
  have ka := Keeps.one w (.cells #[.slice none 0 0, .slice none 0 0] 27)
  obtain ⟨C, hC⟩ : ∃ C, C = w.heap.size := ⟨_, rfl⟩
  obtain ⟨w1, hw⟩ : ∃ w1, w1 = w.alloc (.cells #[.slice none 0 0, .slice none 0 0] 27) := ⟨_, rfl⟩
  have z : Loc w1 (fun _ => False) C [.slice none 0 0, .slice none 0 0] := by rw [hw, hC]; exact Loc.new (fun h => h) [.slice none 0 0, .slice none 0 0] 27
  rw [← hC]
  rw [← hw] at ka ⊢
  have Z := Lib.hid z
  have KA := Lib.hid ka
  have HC := Lib.hid hC
  have CC := Lib.hid (HLC.out w1 ka)
  clear z ka hC hw HLC
  go_wp2_with fail
  refine CC.out.mono ?_
  rintro e w2 ⟨rfl, k2⟩
  have Z2 := Z.out.keeps k2
  have z0 := Z2.cells 0 _ rfl
  have z1 := Z2.cells 1 _ rfl
  have f0 := Z2.fz 0
  have f1 := Z2.fz 1
  have KK : Hid (∀ v0 v1 : Value, Keeps (fun _ => False) w ((w2.setCell ⟨C, 0, none⟩ v0).setCell ⟨C, 1, none⟩ v1)) := Lib.hid fun v0 v1 => by
    have k := (KA.out.trans k2 (fun _ _ h => h)).mono (T := fun b => w.heap.size ≤ b) (fun _ _ h => h.elim)
    have hc : w.heap.size ≤ C := by rw [HC.out]; exact Nat.le_refl _
    exact kback ((k.setCell (p := ⟨C, 0, none⟩) (fun _ => hc) v0).setCell (p := ⟨C, 1, none⟩) (fun _ => hc) v1) rfl
  clear Z2 CC k2 Z
  go_wp2_with fail
  (try simp only [Exit.inBlock, Exit.then])
  refine bodyPost_ret (v := .tuple #[.agg #[.slice none 0 0, .slice none 0 0], .int .i64 pi, .int .i64 ei]) ?_ rfl ?_
  · rw [results_cell_tmp3 rfl]
    go_simp
  exact ⟨rfl, KK.out _ _⟩

end Go.Proofs.YtgelggdgbmldiaaGreatDoor

namespace Go.Proofs.YtgelggdgbmldiaaGreatDoor
open Go Go.RowKit Go.Shelf
set_option linter.unusedVariables false
set_option linter.unusedSimpArgs false

set_option maxRecDepth 100000 in
set_option maxHeartbeats 16000000 in
theorem pall_ok (s : ByteArray) (hs : s.size ≤ 600) (N : Nat) (hN : N ≤ 100000) (res : (Nat × Nat) ⊕ (List Nd × List Fnc)) (hnone : (lexL s.data.toList 0).2 = none) (h : (fnsR s.data.toList (lexL s.data.toList 0).1 N N [] ⟨0, 0, 0, [], 0⟩).map (fun p => treeP p.1 p.2) = some res) (w : World) (he : ErrW w)
    (FN : ∀ P, FnC P s (lexL s.data.toList 0).1 (functionM s.data.toList (lexL s.data.toList 0).1 N)) :
    Calls Tryz.prog 8 #[.string s] w fun e w' => TreeE 0 res e w' ∧ Keeps (fun _ => False) w w' := by
  obtain ⟨T, hT⟩ : ∃ T, T = (lexL s.data.toList 0).1 := ⟨_, rfl⟩
  have hok : TokOK T := by rw [hT]; exact tokOK_lex _ (by rw [len_size]; omega) hnone
  have FN : ∀ P, FnC P s T (functionM s.data.toList T N) := by rw [hT]; exact FN
  obtain ⟨F, sF, hfn, hres⟩ : ∃ F sF, fnsR s.data.toList T N N [] ⟨0, 0, 0, [], 0⟩ = some (F, sF) ∧ treeP F sF = res := by
    rw [← hT] at h
    cases hx : fnsR s.data.toList T N N [] ⟨0, 0, 0, [], 0⟩ with
    | none => rw [hx] at h; cases h
    | some p => rw [hx] at h; exact ⟨p.1, p.2, rfl, Option.some.inj h⟩
  have LC : Hid (∀ w1, Keeps (fun _ => False) w w1 → Calls Tryz.prog 14 #[.string s] w1 fun e w' => ∃ A c, e = .returned (.tuple #[.slice A T.length c, .int .i64 0, .int .i64 0]) ∧ NewT T w1 A c w' ∧ Keeps (fun _ => False) w1 w') := Lib.hid fun w1 k => by
    refine (all_any s (by omega) w1 (he.keep k)).mono fun e w' ⟨h1, hk⟩ => ?_
    rw [if_neg (by rw [len_size]; omega), hnone] at h1
    obtain ⟨A, c, h2, h3⟩ := h1
    rw [hT]
    exact ⟨A, c, h2, h3, hk⟩
  have HOK := Lib.hid hok
  have HR := Lib.hid hres
  have HA := Lib.hid hfn
  have HE := Lib.hid he
  obtain ⟨tl, htl⟩ : ∃ tl, tl = T.length := ⟨_, rfl⟩
  have HTL := Lib.hid htl
  rw [← htl] at LC
  have hsz : Hid (s.size ≤ 1000) := Lib.hid (by omega)
  obtain ⟨io, hio, hf0, hf1, hf2⟩ := info_parts info_func
  clear hok hres hfn he h hT hnone htl hs
  go_enter Tryz.func8, Tryz.ntmps8
  go_upto_region 1 with fail
  have ka := Keeps.one w (.cells #[.slice none 0 0, .slice none 0 0] 27)
  obtain ⟨C, hC⟩ : ∃ C, C = w.heap.size := ⟨_, rfl⟩
  obtain ⟨w1, hw⟩ : ∃ w1, w1 = w.alloc (.cells #[.slice none 0 0, .slice none 0 0] 27) := ⟨_, rfl⟩
  have z : Loc w1 (fun _ => False) C [.slice none 0 0, .slice none 0 0] := by rw [hw, hC]; exact Loc.new (fun h => h) [.slice none 0 0, .slice none 0 0] 27
  rw [← hC]
  rw [← hw] at ka ⊢
  have Z := Lib.hid z
  have KA := Lib.hid ka
  have HC := Lib.hid hC
  have CC := Lib.hid (LC.out w1 ka)
  clear z ka hC hw LC
  go_wp2_with fail
  refine CC.out.mono ?_
  rintro e w2 ⟨A, c, rfl, ⟨ho, hb⟩, k2⟩
  have Z2 := Lib.hid (Z.out.keeps k2)
  have HO := Lib.hid ho
  have HBT := Lib.hid hb
  have KA2 := Lib.hid (KA.out.trans k2 (fun _ _ h => h))
  have HS1 := Lib.hid Z.out.lt
  clear ho hb k2 CC Z
  go_upto_region 5 with fail
  obtain ⟨P, hP⟩ : ∃ P, P = w2.heap.size := ⟨_, rfl⟩
  obtain ⟨wP, hw⟩ : ∃ wP, wP = w2.alloc (.cells #[.string s, .slice A tl c, .int .i64 0, .int .i64 0, .int .i64 0, .slice none 0 0, .int .i64 0] 49) := ⟨_, rfl⟩
  have kp := Keeps.one w2 (.cells #[.string s, .slice A tl c, .int .i64 0, .int .i64 0, .int .i64 0, .slice none 0 0, .int .i64 0] 49)
  rw [← hP]
  rw [← hw] at kp ⊢
  obtain ⟨R, hR⟩ : ∃ R : Nat → Prop, R = fun b => b = P ∨ ∃ off, A = some ⟨b, off, none⟩ := ⟨_, rfl⟩
  have HW2 : Hid (w.heap.size < w2.heap.size ∧ C = w.heap.size ∧ P = w2.heap.size) := Lib.hid ⟨by have h1 := HS1.out; have h2 := HC.out; have h3 := Z2.out.lt; omega, HC.out, hP⟩
  have htb : Hid (∀ b off, A = some ⟨b, off, none⟩ → w.heap.size < b ∧ b < w2.heap.size) := Lib.hid fun b off e => by
    have e1 : (Value.slice A T.length c).ownBlock = some b := by rw [e]; rfl
    have h1 := HBT.out b e1
    have h2 := own_ltk HO.out e1
    have h3 := HS1.out
    have h4 := HC.out
    omega
  have HCR : Hid (¬ R C) := Lib.hid fun h => by
    have h2 := HW2.out
    rw [hR] at h
    rcases h with h | ⟨off, e⟩
    · omega
    · have := htb.out C off e
      omega
  have HRB : Hid (∀ b, R b → w.heap.size ≤ b) := Lib.hid fun b hb => by
    have h2 := HW2.out
    rw [hR] at hb
    rcases hb with h | ⟨off, e⟩
    · omega
    · have := htb.out b off e
      omega
  have HXC0 : Hid (Loc wP R C [.slice none 0 0, .slice none 0 0]) := Lib.hid ⟨Nat.lt_of_lt_of_le Z2.out.lt kp.size, HCR.out, fun k u hu => (kp.cell Z2.out.lt (fun h => h)).trans (Z2.out.cells k u hu), fun k => (kp.frozen Z2.out.lt (fun h => h)).trans (Z2.out.fz k)⟩
  have KW := Lib.hid (KA2.out.trans kp (fun _ _ h => h))
  have HP0 : Hid (Par wP P s T R ⟨0, 0, 0, [], 0⟩) := Lib.hid (by
    have zz := Loc.new (w := w2) (R := fun _ => False) (fun h => h) [.string s, .slice A tl c, .int .i64 0, .int .i64 0, .int .i64 0, .slice none 0 0, .int .i64 0] 49
    have zz : Loc wP (fun _ => False) P [.string s, .slice A tl c, .int .i64 0, .int .i64 0, .int .i64 0, .slice none 0 0, .int .i64 0] := by rw [hw, hP]; exact zz
    have hne := HOK.out.ne
    have hlt : ∀ b, R b → b < wP.heap.size := fun b hb => by
      rw [hR] at hb
      rcases hb with h | ⟨off, e⟩
      · rw [h]; exact zz.lt
      · exact Nat.lt_of_lt_of_le (htb.out b off e).2 kp.size
    have her : ErrP P R wP := by
      obtain ⟨g, tp, p, h1, h2, h3⟩ := HE.out
      refine ⟨w.heap.size, by have := HW2.out; omega, HRB.out, g, tp, p, h1, h2, Nat.lt_of_lt_of_le h2 KW.out.size, ?_⟩
      unfold World.var? at h3 ⊢
      rw [h1] at h3 ⊢
      simp only [Option.bind_some] at h3 ⊢
      rw [KW.out.block g h2 (fun h => h)]
      exact h3
    refine ⟨A, c, .slice none 0 0, [], ?_⟩
    exact { c0 := zz.cells 0 _ rfl, c1 := by rw [← HTL.out]; exact zz.cells 1 _ rfl, c2 := zz.cells 2 _ rfl, c3 := zz.cells 3 _ rfl, c4 := zz.cells 4 _ rfl, c5 := zz.cells 5 _ rfl, c6 := zz.cells 6 _ rfl, fz := zz.fz, lt := hlt, rp := by rw [hR]; exact .inl rfl, tok := (own_rdT HO.out rfl).keep kp, tb := fun b off e => ⟨by rw [hR]; exact .inr ⟨off, e⟩, by have h1 := htb.out b off e; have h2 := HW2.out; omega, fun g hg => by simp [Value.ownBlock] at hg⟩, own := World.ownsRow_nil _ _ _ _, vb := fun g hg => by simp [Value.ownBlock] at hg, nd := rfl, ls := fun x hx => (by cases hx), hi := hne, ok := HOK.out, er := her })
  have HF0 := Lib.hid (Fr.refl R wP)
  have HQ0 : Hid (FnsM wP.heap.size wP R (.slice none 0 0) 0 []) := Lib.hid ⟨rfl, World.ownsRow_nil _ _ _ _, fun g hg => by simp [Value.ownBlock] at hg, fun x hx => by cases hx⟩
  have HKE : Hid (∀ (Rk : Nat → Prop) wk, Fr R wP Rk wk → ∀ v0 v1, Keeps (fun _ => False) w ((wk.setCell ⟨C, 0, none⟩ v0).setCell ⟨C, 1, none⟩ v1)) := Lib.hid fun Rk wk hf v0 v1 => by
    have k := (KW.out.mono (T := fun b => w.heap.size ≤ b) (fun _ _ h => h.elim)).trans hf.1 (fun b _ hb => HRB.out b hb)
    have hc : w.heap.size ≤ C := by rw [HC.out]; exact Nat.le_refl _
    exact kback ((k.setCell (p := ⟨C, 0, none⟩) (fun _ => hc) v0).setCell (p := ⟨C, 1, none⟩) (fun _ => hc) v1) rfl
  have HCP : Hid (C < wP.heap.size) := Lib.hid HXC0.out.lt
  have HPP : Hid (P < wP.heap.size) := Lib.hid HP0.out.lo
  clear kp hw hP hR Z2 HO HBT KA KA2 HS1 htb HCR HRB KW HC HW2 HE HTL HOK
  go_wp2_with fail
  go_loopg [9] N (fun k s9 wr => ∃ (L : List FM) (A9 : Option Addr) (n c9 : Nat) (sk : PS) (Rk : Nat → Prop), s9 = .slice A9 n c9 ∧ n + k ≤ N ∧ fnsR s.data.toList T N k (L.map FM.d) sk = some (F, sF) ∧ Par wr P s T Rk sk ∧ Fr R wP Rk wr ∧ Loc wr Rk C [.slice none 0 0, .slice none 0 0] ∧ FnsM wP.heap.size wr Rk (.slice A9 n c9) n L)
  case atStart => exact ⟨[], none, 0, 0, _, _, rfl, by omega, HA.out, HP0.out, HF0.out, HXC0.out, HQ0.out⟩
  case round =>
    obtain ⟨L, A9, n, c9, sk, Rk, rfl, hnk, hm, hp, hf, hxc, hq⟩ := hrel
    clear HP0 HF0 HXC0 HQ0 HA
    cases gk with
    | zero =>
      have h0 : (none : Option (List Fnc × PS)) = some (F, sF) := hm
      cases h0
    | succ k =>
      unfold fnsR at hm
      have c4 := hp.see.c4
      obtain ⟨b, hb, hm⟩ := ask_out hm
      obtain ⟨tk, htk⟩ : ∃ tk, tk = tokA T sk := ⟨_, rfl⟩
      rw [← htk] at hb
      have NC := Lib.hid (now_at hp htk)
      have HP0 := Lib.hid hp
      have HF0 := Lib.hid hf
      have HXC0 := Lib.hid hxc
      have HQ0 := Lib.hid hq
      have HA := Lib.hid hm
      have HNK := Lib.hid hnk
      have hn2 : n ≤ 100000 := by omega
      clear hp hf hxc hq hm hnk htk
      by_cases he : sk.er = 0
      · skip
        rw [he] at c4
        rw [decide_eq_true he, Bool.true_and] at hb
        have HER := Lib.hid he
        clear he
        have F0 : ∀ w, Sem.run Tryz.prog (Instr.field 38 (.agg #[.int .i64 (tk.k : Int), .string (ofL tk.x), .int .i64 (tk.p : Int)]) 0) w = .ok (.int .i64 (tk.k : Int)) w := fun w => tok_field0 _ _ _ w
        by_cases hk : tk.k = 0
        · skip
          obtain rfl : b = false := by rw [hb, decide_eq_true hk]; rfl
          have hkn : ((tk.k : Int) != 0) = false := by simp; omega
          clear hk hb
          go_wp2_with fail
          refine NC.out.mono ?_
          rintro e w1 ⟨rfl, k1⟩
          have HP1 := Lib.hid (HP0.out.keep k1)
          have HF1 := Lib.hid (HF0.out.keeps k1)
          have HXC1 := Lib.hid (HXC0.out.keeps k1)
          have HQ1 := Lib.hid (HQ0.out.keeps k1)
          clear HP0 HF0 HXC0 HQ0 NC k1 
          go_upto_region 8 with fail
          clear hkn F0 c4
          have h := HA.out
          rw [if_neg (by decide)] at h
          obtain ⟨q1, q2⟩ := pure_end h
          subst q1
          subst q2
          clear HA h
          obtain ⟨A5, c5, h5, htr⟩ := tree_of HP1.out HQ1.out
          have HTR := Lib.hid htr
          have HC5 := Lib.hid h5
          have HLN : Hid ((L.map FM.d).length = n) := Lib.hid (by rw [List.length_map]; exact HQ1.out.hn.symm)
          obtain ⟨m, hm⟩ : ∃ m, m = sF.nd.length := ⟨_, rfl⟩
          rw [← hm] at h5 HC5
          have HM := Lib.hid hm
          have hdn : ((0 : Int) != 0) = false := rfl
          clear htr hm
          obtain ⟨bg, hbg⟩ : ∃ bg, bg = (decide (300 < m) || decide (6 < n)) := ⟨_, rfl⟩
          have HBG := Lib.hid hbg
          have c4 := HP1.out.see.c4
          rw [HER.out] at c4
          have htp : treeP (L.map FM.d) sF = if bg || (L.map FM.d).any (fun f => decide (3 < f.ps.length)) then .inl (0, 4) else .inr (sF.nd, L.map FM.d) := by
            unfold treeP
            rw [if_pos HER.out, HLN.out, ← HM.out, ← HBG.out]
          have HTP : Hid (res = if bg || (L.map FM.d).any (fun f => decide (3 < f.ps.length)) then .inl (0, 4) else .inr (sF.nd, L.map FM.d)) := Lib.hid (by rw [← HR.out]; exact htp)
          clear htp
          by_cases h300 : 300 < m
          · skip
            have h3I : (300 : Int) < (m : Int) := by omega
            have h3d : decide ((300 : Int) < (m : Int)) = true := decide_eq_true h3I
            have HB4 : Hid (bg = true) := Lib.hid (by rw [HBG.out, decide_eq_true h300]; rfl)
            clear hbg h300
            have zC0 := HXC1.out.cells 0 _ rfl
            have zC1 := HXC1.out.cells 1 _ rfl
            have gC0 := HXC1.out.fz 0
            have gC1 := HXC1.out.fz 1
            go_wp2_with fail
            (try simp only [Exit.inBlock, Exit.then])
            refine bodyPost_ret (v := .tuple #[.agg #[.slice none 0 0, .slice none 0 0], .int .i64 0, .int .i64 4]) ?_ rfl ?_
            · rw [results_cell_tmp3 rfl]
              go_simp
            clear zC0 zC1 gC0 gC1
            exact ⟨treeE_inl (p := 0) (er := 4) (by rw [HTP.out, HB4.out]; rfl) _, HKE.out _ _ HF1.out _ _⟩
          · skip
            have h3I : ¬ (300 : Int) < (m : Int) := by omega
            have h3d : decide ((300 : Int) < (m : Int)) = false := decide_eq_false h3I
            by_cases h6 : 6 < n
            · skip
              have h6I : (6 : Int) < (n : Int) := by omega
              have h6d : decide ((6 : Int) < (n : Int)) = true := decide_eq_true h6I
              have HB4 : Hid (bg = true) := Lib.hid (by rw [HBG.out, decide_eq_true h6]; simp)
              clear hbg h6 h300
              have zC0 := HXC1.out.cells 0 _ rfl
              have zC1 := HXC1.out.cells 1 _ rfl
              have gC0 := HXC1.out.fz 0
              have gC1 := HXC1.out.fz 1
              go_wp2_with fail
              (try simp only [Exit.inBlock, Exit.then])
              refine bodyPost_ret (v := .tuple #[.agg #[.slice none 0 0, .slice none 0 0], .int .i64 0, .int .i64 4]) ?_ rfl ?_
              · rw [results_cell_tmp3 rfl]
                go_simp
              clear zC0 zC1 gC0 gC1
              exact ⟨treeE_inl (p := 0) (er := 4) (by rw [HTP.out, HB4.out]; rfl) _, HKE.out _ _ HF1.out _ _⟩
            · skip
              have h6I : ¬ (6 : Int) < (n : Int) := by omega
              have h6d : decide ((6 : Int) < (n : Int)) = false := decide_eq_false h6I
              have HB0 : Hid (bg = false) := Lib.hid (by rw [HBG.out, decide_eq_false h300, decide_eq_false h6]; rfl)
              clear hbg h6 h300
              go_wp2_with fail
              go_loopg [11, 64] n (fun k s11 s64 wr => ∃ i : Nat, s64 = .int .i64 i ∧ i + k = n ∧ (∀ j (hj : j < L.length), j < i → ¬ 3 < (L[j]).d.ps.length) ∧ Keeps (fun _ => False) w1 wr)
              case atStart => exact ⟨0, rfl, by omega, fun j _ hj => by omega, Keeps.refl _ _⟩
              case round =>
                obtain ⟨i, rfl, hik, hsm, kr⟩ := hrel
                have KR := Lib.hid kr
                have HSM := Lib.hid hsm
                have HQR := Lib.hid (HQ1.out.keeps kr)
                have zC0 := (kr.cell HXC1.out.lt (fun h => h)).trans (HXC1.out.cells 0 _ rfl)
                have zC1 := (kr.cell HXC1.out.lt (fun h => h)).trans (HXC1.out.cells 1 _ rfl)
                have gC0 := (kr.frozen HXC1.out.lt (fun h => h)).trans (HXC1.out.fz 0)
                have gC1 := (kr.frozen HXC1.out.lt (fun h => h)).trans (HXC1.out.fz 1)
                have HKF : Hid (∀ wq, Keeps (fun _ => False) wr wq → ∀ v0 v1, Keeps (fun _ => False) w ((wq.setCell ⟨C, 0, none⟩ v0).setCell ⟨C, 1, none⟩ v1)) := Lib.hid fun wq kq v0 v1 => HKE.out _ _ (HF1.out.keeps (KR.out.trans kq (fun _ _ h => h))) v0 v1
                have HTRR := Lib.hid (HTR.out.keep kr)
                have h5 := (kr.cell HP1.out.lo (fun h => h)).trans HC5.out
                clear kr hsm
                by_cases hin : i < n
                · have hinI : (i : Int) < (n : Int) := by omega
                  have hd2 : decide ((i : Int) < (n : Int)) = true := decide_eq_true hinI
                  have hi0 : (0 : Int) ≤ (i : Int) := by omega
                  have hL : i < L.length := by rw [← HQR.out.hn]; exact hin
                  obtain ⟨bb, off, rfl, hc⟩ := own_rdG HQR.out.own (by rw [flatF_length]; omega)
                  have hcc : ∀ j u, (L[i]).cells[j]? = some u → j < 5 → wr.cell? ⟨bb, off + (i * 5 + j), none⟩ = some u := fun j u hu hj => hc (i * 5 + j) u (by rw [flatF_at L i j hL hj]; exact hu)
                  have e0 := hcc 0 _ rfl (by omega)
                  have e1 := hcc 1 _ rfl (by omega)
                  have e2 := hcc 2 _ rfl (by omega)
                  have e3 := hcc 3 _ rfl (by omega)
                  have e4 := hcc 4 _ rfl (by omega)
                  rw [show off + (i * 5 + 0) = off + i * 5 by omega] at e0
                  rw [show off + (i * 5 + 1) = off + i * 5 + 1 by omega] at e1
                  rw [show off + (i * 5 + 2) = off + i * 5 + 2 by omega] at e2
                  rw [show off + (i * 5 + 3) = off + i * 5 + 3 by omega] at e3
                  rw [show off + (i * 5 + 4) = off + i * 5 + 4 by omega] at e4
                  obtain ⟨mp, hmp⟩ : ∃ mp, mp = (L[i]).d.ps.length := ⟨_, rfl⟩
                  rw [← hmp] at e2
                  have HMP := Lib.hid hmp
                  have HL := Lib.hid hL
                  have HIN := Lib.hid hin
                  have HIK := Lib.hid hik
                  have hi1 : IntKind.i64.wrap ((i : Int) + 1) = (i : Int) + 1 := IntWalk.i64_in _ (by omega)
                  generalize ofL (L[i]).d.s = fx at e0
                  generalize (L[i]).d.ln = fl at e1
                  generalize (L[i]).a = fa at e2
                  generalize (L[i]).c = fc at e2
                  generalize (L[i]).d.ret = fr at e3
                  generalize (L[i]).d.body = fb at e4
                  clear hcc hc hmp hik
                  by_cases h3 : 3 < mp
                  · have h3p : (3 : Int) < (mp : Int) := by omega
                    have h3q : decide ((3 : Int) < (mp : Int)) = true := decide_eq_true h3p
                    have HB4 : Hid ((bg || (L.map FM.d).any (fun f => decide (3 < f.ps.length))) = true) := Lib.hid (by
                      rw [Bool.or_eq_true, List.any_eq_true]
                      exact .inr ⟨(L[i]'HL.out).d, List.mem_map.2 ⟨_, List.getElem_mem HL.out, rfl⟩, by rw [← HMP.out]; exact decide_eq_true h3⟩)
                    clear h3
                    have d0 := ((Keeps.one wr (.cells #[.string fx, .int .i64 fl, .slice fa mp fc, .int .i64 fr, .int .i64 fb] 45)).cell (cell_ltk zC0) (fun h => h)).trans zC0
                    have d1 := ((Keeps.one wr (.cells #[.string fx, .int .i64 fl, .slice fa mp fc, .int .i64 fr, .int .i64 fb] 45)).cell (cell_ltk zC1) (fun h => h)).trans zC1
                    have g0 := ((Keeps.one wr (.cells #[.string fx, .int .i64 fl, .slice fa mp fc, .int .i64 fr, .int .i64 fb] 45)).frozen (cell_ltk zC0) (fun h => h)).trans gC0
                    have g1 := ((Keeps.one wr (.cells #[.string fx, .int .i64 fl, .slice fa mp fc, .int .i64 fr, .int .i64 fb] 45)).frozen (cell_ltk zC1) (fun h => h)).trans gC1
                    go_wp2_with fail
                    (try simp only [Exit.inBlock, Exit.then])
                    refine bodyPost_ret (v := .tuple #[.agg #[.slice none 0 0, .slice none 0 0], .int .i64 0, .int .i64 4]) ?_ rfl ?_
                    · rw [results_cell_tmp3 rfl]
                      go_simp
                    exact ⟨treeE_inl (p := 0) (er := 4) (by rw [HTP.out, HB4.out]; rfl) _, HKF.out _ (Keeps.one wr _) _ _⟩
                  · have h3p : ¬ (3 : Int) < (mp : Int) := by omega
                    have h3q : decide ((3 : Int) < (mp : Int)) = false := decide_eq_false h3p
                    have H3 := Lib.hid h3
                    clear h3
                    go_wp2_with fail
                    go_roundg (gk - 1)
                    case measure => go_light; have h1 := HIK.out; have h2 := HIN.out; omega
                    case rel => exact ⟨i + 1, by go_num, by have h1 := HIK.out; have h2 := HIN.out; go_light; omega, small_next HSM.out HL.out (by rw [← HMP.out]; exact H3.out), KR.out.trans (Keeps.one wr _) (fun _ _ h => h)⟩
                · obtain rfl : i = n := by omega
                  have hinI : ¬ (i : Int) < (i : Int) := by omega
                  have hd2 : decide ((i : Int) < (i : Int)) = false := decide_eq_false hinI
                  have HAny : Hid ((bg || (L.map FM.d).any (fun f => decide (3 < f.ps.length))) = false) := Lib.hid (by
                    rw [HB0.out, Bool.false_or, List.any_eq_false]
                    intro f hf
                    obtain ⟨x, hx, rfl⟩ := List.mem_map.1 hf
                    obtain ⟨j, hj, rfl⟩ := List.getElem_of_mem hx
                    have := HSM.out j hj (by rw [← HQR.out.hn] at hj; exact hj)
                    simpa using this)
                  clear hin hik
                  go_wp2_with fail
                  (try simp only [Exit.inBlock, Exit.then])
                  refine bodyPost_ret (v := .tuple #[.agg #[.slice A5 m c5, .slice A9 i c9], .int .i64 0, .int .i64 0]) ?_ rfl ?_
                  · rw [results_cell_tmp3 rfl]
                    go_simp
                  have kz := HKF.out _ (Keeps.refl _ _) (.slice A5 m c5) (.slice A9 i c9)
                  have kz2 : Keeps (fun b => b = C) w1 ((wr.setCell ⟨C, 0, none⟩ (.slice A5 m c5)).setCell ⟨C, 1, none⟩ (.slice A9 i c9)) := ((KR.out.mono (T := fun b => b = C) (fun _ _ h => h.elim)).setCell (p := ⟨C, 0, none⟩) (fun _ => rfl) _).setCell (p := ⟨C, 1, none⟩) (fun _ => rfl) _
                  have htr6 := tree_of2 HP1.out HQ1.out HC5.out kz2 HXC1.out.out HCP.out
                  exact ⟨treeE_inr (by rw [HTP.out, HAny.out]; rfl) HM.out HLN.out.symm htr6, kz⟩
        · skip
          obtain rfl : b = true := by rw [hb, decide_eq_false hk]; rfl
          have hkn : ((tk.k : Int) != 0) = true := by simp; omega
          clear hk hb
          go_wp2_with fail
          refine NC.out.mono ?_
          rintro e w2 ⟨rfl, k1⟩
          have HP1 := Lib.hid (HP0.out.keep k1)
          have HF1 := Lib.hid (HF0.out.keeps k1)
          have HXC1 := Lib.hid (HXC0.out.keeps k1)
          have HQ1 := Lib.hid (HQ0.out.keeps k1)
          clear HP0 HF0 HXC0 HQ0 NC k1 
          have h := HA.out
          first | rw [if_pos rfl] at h | rw [if_pos trivial] at h
          obtain ⟨fa, s2, hm, h⟩ := bind_out h
          replace HA := Lib.hid h
          have HLT : Hid (∀ g, (Value.slice A9 n c9).ownBlock = some g → g < w2.heap.size) := Lib.hid (fun g hg => own_ltk HQ1.out.own hg)
          have HSZ : Hid (wP.heap.size ≤ w2.heap.size) := Lib.hid HF1.out.1.size
          have BC := Lib.hid (FN P _ _ _ _ _ hm HP1.out)
          clear h hm
          go_wp2_with fail
          refine BC.out.mono ?_
          rintro e w3 ⟨Af, cf, rfl, hof, R4, hp, hf, hbf⟩
          have HP2 := Lib.hid hp
          have HF2 := Lib.hid (HF1.out.trans hf)
          have HXC2 := Lib.hid (HXC1.out.keep hf)
          have HQ2 := Lib.hid (HQ1.out.keep hf)
          clear HP1 HF1 HXC1 HQ1 hp hf BC c4 hkn F0
          have HOF := Lib.hid hof
          have HBF := Lib.hid hbf
          obtain ⟨mf, hmf⟩ : ∃ mf, mf = fa.ps.length := ⟨_, rfl⟩
          rw [← hmf]
          have HMF := Lib.hid hmf
          obtain ⟨x, hx⟩ : ∃ x : FM, x = ⟨fa, Af, cf⟩ := ⟨_, rfl⟩
          have HXX := Lib.hid hx
          have HXE : Hid (x.cells = [.string (ofL fa.s), .int .i64 fa.ln, .slice Af mf cf, .int .i64 fa.ret, .int .i64 fa.body]) := Lib.hid (by rw [hx, hmf]; rfl)
          clear hof hbf hmf hx
          go_wp2_with (at_builtin; refine wpList_append_atk rfl (.tmp 37) (.tmp 39) 25 rfl 0 45 io _ 5 64 Tryz.underlying25 hio hf0 hf1 hf2 (by rfl) (by omega) (.slice A9 n c9) n (flatF L) (by rfl) (ownsRow_keep HQ2.out.own (fun g hg => (Keeps.one w3 _).block g (own_ltk HQ2.out.own hg) (fun h => h))) ⟨w3.heap.size, 0, none⟩ 1 1 x.cells (by rfl) (by rw [HXE.out]; rfl) (by have e := HXE.out; have hh := newsG (w := w3) x.cells 45; rw [e] at hh ⊢; exact hh) (FM.one x) (by omega) (by omega) (Nat.zero_le _) ?_; intro v5 w5 h5 g5 b5; obtain ⟨A5, c5, rfl⟩ := own_formk h5; have hsz2 := HF2.out.1.size; have hq := HQ2.out.more HP2.out.lt hsz2 (Keeps.one w3 (.cells #[.string (ofL fa.s), .int .i64 fa.ln, .slice Af mf cf, .int .i64 fa.ret, .int .i64 fa.body] 45)) x (by rw [HXX.out]; exact (own_rdG HOF.out).keep (Keeps.one w3 _) (fun _ _ _ _ h => h)) (by rw [HXX.out]; exact fn_out HOF.out HBF.out HLT.out HSZ.out) h5 g5 b5; have hmm := own_more HP2.out HF2.out HPP.out HQ2.out.blk (Keeps.one w3 (.cells #[.string (ofL fa.s), .int .i64 fa.ln, .slice Af mf cf, .int .i64 fa.ret, .int .i64 fa.body] 45)) g5 b5; have HP3 := Lib.hid hmm.1; have HF3 := Lib.hid hmm.2.1; have HQ3 := Lib.hid hq; have HXC3 := Lib.hid (HXC2.out.keepsR hmm.2.2.2 (fun hv => absurd (HQ2.out.blk _ hv).2 (Nat.not_le.2 HCP.out))); clear hmm h5 g5 b5 hq hsz2 HP2 HF2 HQ2 HXC2)
          go_roundg k
          case measure => omega
          case rel => exact ⟨L ++ [x], _, n + 1, _, _, _, rfl, by have := HNK.out; omega, by rw [List.map_append, show [x].map FM.d = [fa] by rw [HXX.out]; rfl]; exact HA.out, HP3.out, HF3.out, HXC3.out, HQ3.out⟩
      · skip
        have HER := Lib.hid he
        have heI : ¬ (sk.er : Int) = 0 := by omega
        have hd : ((sk.er : Int) == 0) = false := by simpa using heI
        obtain rfl : b = false := by rw [hb, decide_eq_false he]; rfl
        clear hb he NC
        have h := HA.out
        rw [if_neg (by decide)] at h
        obtain ⟨q1, q2⟩ := pure_end h
        subst q1
        subst q2
        clear HA h
        have c3 := HP0.out.see.c3
        have HTP : Hid (res = .inl (sF.pl, sF.er)) := Lib.hid (by rw [← HR.out]; unfold treeP; rw [if_neg HER.out])
        have hdn : ((sF.er : Int) != 0) = true := by have := HER.out; simp; omega
        generalize hpl : (sF.pl : Int) = pl at c3
        have HPL := Lib.hid hpl
        generalize her : (sF.er : Int) = er at c4 hd hdn heI
        have HEI := Lib.hid her
        clear hpl her
        have zC0 := HXC0.out.cells 0 _ rfl
        have zC1 := HXC0.out.cells 1 _ rfl
        have gC0 := HXC0.out.fz 0
        have gC1 := HXC0.out.fz 1
        go_upto_region 9 with fail
        go_region
        all_goals go_wp2_with fail
        all_goals (try simp only [Exit.inBlock, Exit.then])
        all_goals refine bodyPost_ret (v := .tuple #[.agg #[.slice none 0 0, .slice none 0 0], .int .i64 pl, .int .i64 er]) ?_ rfl ?_
        all_goals first | (rw [results_cell_tmp3 rfl]; go_simp; done) | skip
        all_goals exact ⟨by rw [← HPL.out, ← HEI.out]; exact treeE_inl HTP.out _, (HKE.out _ _ HF0.out _ _).drew⟩

end Go.Proofs.YtgelggdgbmldiaaGreatDoor

namespace Go.Proofs.YtgelggdgbmldiaaGreatDoor
open Go Go.RowKit Go.Shelf
set_option linter.unusedVariables false
set_option linter.unusedSimpArgs false

/-- All, for any source, as far as the numbers of steps go. -/
theorem pall_any (s : ByteArray) (hs : s.size ≤ 1000) (N : Nat) (hN : N ≤ 100000) (res : (Nat × Nat) ⊕ (List Nd × List Fnc)) (h : allP N s.data.toList = some res) (w : World) (he : ErrW w) :
    Calls Tryz.prog 8 #[.string s] w fun e w' => TreeE 0 res e w' ∧ Keeps (fun _ => False) w w' := by
  unfold allP at h
  by_cases hb : 600 < s.size
  · rw [if_pos (by rw [len_size]; exact hb)] at h
    obtain rfl := Option.some.inj h
    exact (pall_err s w 0 4 (by decide) (fun w1 k => all_big s hb hs w1 (he.keep k))).mono fun e w' ⟨h1, h2⟩ => ⟨h1, h2⟩
  · rw [if_neg (by rw [len_size]; exact hb)] at h
    cases hl : (lexL s.data.toList 0).2 with
    | some pe =>
      rw [hl] at h
      obtain rfl := Option.some.inj h
      obtain ⟨p, er⟩ := pe
      have her := lexL_cut s.data.toList 0 p er hl
      exact (pall_err s w p er (by omega) (fun w1 k => all_bad s (by omega) p er hl w1 (he.keep k))).mono fun e w' ⟨h1, h2⟩ => ⟨h1, h2⟩
    | none =>
      rw [hl] at h
      exact pall_ok s (by omega) N hN res hl h w he (fun P => function_any (by omega) hN (block_any (by omega) hN (st_any (by omega) hN N)))

end Go.Proofs.YtgelggdgbmldiaaGreatDoor

namespace Go.Proofs.YtgelggdgbmldiaaGreatDoor
open Go Go.RowKit Go.Shelf
set_option linter.unusedVariables false
set_option linter.unusedSimpArgs false

/-- The nodes of a tree, one by one. -/
theorem TreeR.nodeAt {B : Nat} {w : World} {A A' : Option Addr} {nd : List Nd} {fs : List Fnc} (h : TreeR B w A A' nd fs) (h0 : 0 < nd.length) : ∃ b off, A = some ⟨b, off, none⟩ ∧ ∀ i (hi : i < nd.length), ∃ a c,
    w.cell? ⟨b, off + i * 5, none⟩ = some (.int .i64 (nd[i]).k) ∧ w.cell? ⟨b, off + i * 5 + 1, none⟩ = some (.int .i64 (nd[i]).ln) ∧ w.cell? ⟨b, off + i * 5 + 2, none⟩ = some (.int .i64 (nd[i]).n) ∧
    w.cell? ⟨b, off + i * 5 + 3, none⟩ = some (.string (ofL (nd[i]).s)) ∧ w.cell? ⟨b, off + i * 5 + 4, none⟩ = some (.slice a (nd[i]).l.length c) ∧ RdI w a (nd[i]).l := by
  obtain ⟨L, rfl, hr, hl⟩ := h.nodes
  rw [List.length_map] at h0
  obtain ⟨b, off, e, hc⟩ := hr (by rw [flatN_length]; omega)
  refine ⟨b, off, e, fun i hi => ?_⟩
  rw [List.length_map] at hi
  have hcc : ∀ j u, (L[i]).cells[j]? = some u → j < 5 → w.cell? ⟨b, off + i * 5 + j, none⟩ = some u := fun j u hu hj => by
    rw [Nat.add_assoc]
    exact hc (i * 5 + j) u (by rw [flatN_at L i j hi hj]; exact hu)
  simp only [List.getElem_map]
  exact ⟨(L[i]).a, (L[i]).c, hcc 0 _ rfl (by omega), hcc 1 _ rfl (by omega), hcc 2 _ rfl (by omega), hcc 3 _ rfl (by omega), hcc 4 _ rfl (by omega), hl _ (List.getElem_mem hi)⟩
/-- The functions of a tree, one by one. -/
theorem TreeR.fnAt {B : Nat} {w : World} {A A' : Option Addr} {nd : List Nd} {fs : List Fnc} (h : TreeR B w A A' nd fs) (h0 : 0 < fs.length) : ∃ b off, A' = some ⟨b, off, none⟩ ∧ ∀ i (hi : i < fs.length), ∃ a c,
    w.cell? ⟨b, off + i * 5, none⟩ = some (.string (ofL (fs[i]).s)) ∧ w.cell? ⟨b, off + i * 5 + 1, none⟩ = some (.int .i64 (fs[i]).ln) ∧ w.cell? ⟨b, off + i * 5 + 2, none⟩ = some (.slice a (fs[i]).ps.length c) ∧
    w.cell? ⟨b, off + i * 5 + 3, none⟩ = some (.int .i64 (fs[i]).ret) ∧ w.cell? ⟨b, off + i * 5 + 4, none⟩ = some (.int .i64 (fs[i]).body) ∧ RdG w a (flatP (fs[i]).ps) := by
  obtain ⟨L, rfl, hr, hl⟩ := h.fns
  rw [List.length_map] at h0
  obtain ⟨b, off, e, hc⟩ := hr (by rw [flatF_length]; omega)
  refine ⟨b, off, e, fun i hi => ?_⟩
  rw [List.length_map] at hi
  have hcc : ∀ j u, (L[i]).cells[j]? = some u → j < 5 → w.cell? ⟨b, off + i * 5 + j, none⟩ = some u := fun j u hu hj => by
    rw [Nat.add_assoc]
    exact hc (i * 5 + j) u (by rw [flatF_at L i j hi hj]; exact hu)
  simp only [List.getElem_map]
  exact ⟨(L[i]).a, (L[i]).c, hcc 0 _ rfl (by omega), hcc 1 _ rfl (by omega), hcc 2 _ rfl (by omega), hcc 3 _ rfl (by omega), hcc 4 _ rfl (by omega), hl _ (List.getElem_mem hi)⟩

def shownN : List Nd := [⟨1, 1, 1, [], []⟩, ⟨1, 1, 2, [], []⟩, ⟨9, 1, 0, [43], [0, 1]⟩, ⟨14, 1, 0, [], [2]⟩, ⟨18, 1, 0, [], [3]⟩]
def shownF : List Fnc := [⟨[109, 97, 105, 110], 1, [], 0, 4⟩]
theorem shown_parse : allP 40 [102, 110, 32, 109, 97, 105, 110, 40, 41, 32, 123, 32, 112, 114, 105, 110, 116, 32, 49, 43, 50, 59, 32, 125] = some (.inr (shownN, shownF)) := by kernel_rfl

set_option maxRecDepth 100000 in
set_option maxHeartbeats 16000000 in
theorem shown_any (w : World) (he : ErrW w) : Calls Tryz.prog 6 #[] w fun e w' => e = .returned (.bool true) ∧ Keeps (fun _ => False) w w' := by
  have AC := Lib.hid (pall_any { data := #[102, 110, 32, 109, 97, 105, 110, 40, 41, 32, 123, 32, 112, 114, 105, 110, 116, 32, 49, 43, 50, 59, 32, 125] } (by decide) 40 (by omega) _ shown_parse w he)
  clear he
  go_enter Tryz.func6, Tryz.ntmps6
  go_wp2_with fail
  refine AC.out.mono ?_
  rintro e w1 ⟨⟨A, c, A', c', rfl, ht⟩, k1⟩
  have K1 := Lib.hid k1
  obtain ⟨b, off, rfl, hn⟩ := ht.nodeAt (by decide)
  obtain ⟨b', off', rfl, hf⟩ := ht.fnAt (by decide)
  obtain ⟨a0, c0, -, -, n02, -⟩ := hn 0 (by decide)
  obtain ⟨a2, c2, n20, -, -, n23, -⟩ := hn 2 (by decide)
  obtain ⟨a4, c4, n40, -⟩ := hn 4 (by decide)
  obtain ⟨p0, q0, -, -, -, -, f04, -⟩ := hf 0 (by decide)
  have n02 : w1.cell? ⟨b, off + 2, none⟩ = some (.int .i64 1) := n02
  have n20 : w1.cell? ⟨b, off + 10, none⟩ = some (.int .i64 9) := n20
  have n23 : w1.cell? ⟨b, off + 13, none⟩ = some (.string { data := #[43] }) := n23
  have n40 : w1.cell? ⟨b, off + 20, none⟩ = some (.int .i64 18) := n40
  have f04 : w1.cell? ⟨b', off' + 4, none⟩ = some (.int .i64 4) := f04
  have hb := cell_ltk n02
  have hb' := cell_ltk f04
  have ka := Keeps.one w1 (.cells #[.slice (some ⟨b, off, none⟩) 5 c, .slice (some ⟨b', off', none⟩) 1 c'] 27)
  have z := Loc.new (w := w1) (R := fun _ => False) (fun h => h) [.slice (some ⟨b, off, none⟩) 5 c, .slice (some ⟨b', off', none⟩) 1 c'] 27
  have e1 : shownN.length = 5 := rfl
  have e2 : shownF.length = 1 := rfl
  rw [e1, e2]
  go_upto_region 2 with fail
  obtain ⟨X, hX⟩ : ∃ X, X = w1.heap.size := ⟨_, rfl⟩
  obtain ⟨w2, hw⟩ : ∃ w2, w2 = w1.alloc (.cells #[.slice (some ⟨b, off, none⟩) 5 c, .slice (some ⟨b', off', none⟩) 1 c'] 27) := ⟨_, rfl⟩
  have z : Loc w2 (fun _ => False) X [.slice (some ⟨b, off, none⟩) 5 c, .slice (some ⟨b', off', none⟩) 1 c'] := by rw [hw, hX]; exact z
  rw [← hX]
  rw [← hw] at ka ⊢
  have z0 := z.cells 0 _ rfl
  have z1 := z.cells 1 _ rfl
  have n02 := (ka.cell hb (fun h => h)).trans n02
  have n20 := (ka.cell hb (fun h => h)).trans n20
  have n23 := (ka.cell hb (fun h => h)).trans n23
  have n40 := (ka.cell hb (fun h => h)).trans n40
  have f04 := (ka.cell hb' (fun h => h)).trans f04
  have K2 := Lib.hid (K1.out.trans ka (fun _ _ h => h))
  clear z ka hw hX hb hb' k1 hn hf ht AC e1 e2 K1
  go_wp2_with fail
  go_ret
  exact ⟨rfl, K2.out⟩

end Go.Proofs.YtgelggdgbmldiaaGreatDoor

namespace Go.Proofs.YtgelggdgbmldiaaGreatDoor
open Go Go.RowKit Go.Shelf
set_option linter.unusedVariables false
set_option linter.unusedSimpArgs false

theorem RdI.up {w w' : World} {a : Option Addr} {l : List Int} (h : RdI w a l) (k : Keeps (fun _ => False) w w') : RdI w' a l := h.keep k (fun _ _ _ _ h => h)
theorem RdG.up {w w' : World} {a : Option Addr} {l : List Value} (h : RdG w a l) (k : Keeps (fun _ => False) w w') : RdG w' a l := h.keep k (fun _ _ _ _ h => h)

set_option maxRecDepth 100000 in
set_option maxHeartbeats 16000000 in
theorem ints_any (a b : Option Addr) (c d n : Nat) (l : List Int) (hn : n = l.length) (hl : n ≤ 1000000) (w : World) (ha : RdI w a l) (hb : RdI w b l) : Calls Tryz.prog 19 #[.slice a n c, .slice b n d] w fun e w' => e = .returned (.bool true) ∧ Keeps (fun _ => False) w w' := by
  have HA := Lib.hid ha
  have HB := Lib.hid hb
  have HN := Lib.hid hn
  clear ha hb hn
  go_enter Tryz.func19, Tryz.ntmps19
  go_wp2_with fail
  go_loopg [5] (n + 1) (fun k s5 wr => ∃ i : Nat, s5 = .int .i64 i ∧ i + k = n + 1 ∧ i ≤ n ∧ Keeps (fun _ => False) w wr)
  case atStart => exact ⟨0, rfl, by omega, by omega, Keeps.refl _ _⟩
  case round =>
    obtain ⟨i, rfl, hik, hle, kr⟩ := hrel
    have KR := Lib.hid kr
    have HIK := Lib.hid hik
    by_cases hin : i < n
    · have hinI : (i : Int) < (n : Int) := by omega
      have hd : decide ((i : Int) < (n : Int)) = true := decide_eq_true hinI
      have hi0 : (0 : Int) ≤ (i : Int) := by omega
      have hw := IntWalk.i64_in ((i : Int) + 1) (by omega)
      obtain ⟨b1, o1, rfl, h1⟩ := HA.out (by rw [← HN.out]; omega)
      obtain ⟨b2, o2, rfl, h2⟩ := HB.out (by rw [← HN.out]; omega)
      have c1 := (kr.cell (cell_ltk (h1 i (by rw [← HN.out]; exact hin))) (fun h => h)).trans (h1 i (by rw [← HN.out]; exact hin))
      have c2 := (kr.cell (cell_ltk (h2 i (by rw [← HN.out]; exact hin))) (fun h => h)).trans (h2 i (by rw [← HN.out]; exact hin))
      generalize l.getD i 0 = z at c1 c2
      have HIN := Lib.hid hin
      clear h1 h2 kr hik hin
      go_wp2_with fail
      go_quiet (fail)
      go_wp2_with fail
      go_roundg (gk - 1)
      case measure => go_light; have h1 := HIK.out; have h2 := HIN.out; omega
      case rel => exact ⟨i + 1, by go_num, by have h1 := HIK.out; have h2 := HIN.out; go_light; omega, by have h2 := HIN.out; go_light; omega, KR.out.trans (drew_keeps _ _) (fun _ _ h => h)⟩
    · obtain rfl : i = n := by omega
      have hinI : ¬ (i : Int) < (i : Int) := by omega
      have hd : decide ((i : Int) < (i : Int)) = false := decide_eq_false hinI
      clear hin hik kr
      go_wp2_with fail
      go_ret
      exact ⟨rfl, KR.out⟩

theorem eq_param (a b : Int) (s t : ByteArray) (w : World) : (Op.equalIn 10000 58 (.agg #[.string s, .int .i64 a]) (.agg #[.string t, .int .i64 b])).run Tryz.prog w = .ok (s.toList == t.toList && a == b) w := by
  have hS : Tryz.prog.underlying 58 = some (.struct (Tryz.prog.fieldsOf 58)) := by kernel_rfl
  have hp : Tryz.prog.stoodInHeld 58 = false := by kernel_rfl
  rw [show (10000 : Nat) = 9999 + 1 from rfl, run_equalIn_agg w 9999 58 _ _ hS hp]
  simp only [Program.fieldsOf, Tryz.underlying58]
  go_simp
  cases h1 : (a == b) <;> cases h3 : (s.toList == t.toList) <;> simp_all
theorem guard_param : Tryz.prog.eqGuardType Tryz.prog.depth 58 = false := by kernel_rfl
theorem neq_param (a b : Int) (s t : ByteArray) (w : World) : (binOp .neq 58 (.agg #[.string s, .int .i64 a]) (.agg #[.string t, .int .i64 b])).run Tryz.prog w = .ok (.bool (!(s.toList == t.toList && a == b))) w := by
  have h := run_neq_struct (P := Tryz.prog) w 58 #[.string s, .int .i64 a] #[.string t, .int .i64 b]
  rw [eq_param] at h
  exact h

end Go.Proofs.YtgelggdgbmldiaaGreatDoor
