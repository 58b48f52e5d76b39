/-
  Layer 2: what a lexer's tokens are like. Written by an AI agent.
  Layer 2: a tree in memory. Written by an AI agent.
  Layer 2: All: an error of the lexer. Written by an AI agent.
  Layer 1: the contract of the document's text. Written by an AI agent.
  Layer 1: the contract of the document's sign. Written by an AI agent.
  Layer 1: the contract of the document's skip. Written by an AI agent.
-/
import Derived.Test.YtgelggdgbmldiaaGreatDoorMaad
import Derived.Test.YtgelggdgbmldiaaGreatDoorMaaq
import Derived.Test.YtgelggdgbmldiaaGreatDoorMaag
namespace Go.Proofs.YtgelggdgbmldiaaGreatDoor
open Go.RowKit Go.Shelf
set_option linter.unusedVariables false
set_option linter.unusedSimpArgs false

/-- A token that is not the end. -/
def TokIn (m : Nat) (t : Tok) : Prop := t.k ≠ 0 ∧ (t.k = 1 → t.x ≠ [] ∧ (∀ c ∈ t.x, dig c = true) ∧ numV t.x ≤ 9223372036854775807) ∧ t.x.length ≤ m ∧ t.p ≤ m
def TokL (m : Nat) (T : List Tok) : Prop := ∃ I e, T = I ++ [e] ∧ e.k = 0 ∧ e.x = [] ∧ e.p ≤ m ∧ ∀ t ∈ I, TokIn m t

theorem first_tok (l : List UInt8) (h : (firstL l).2.2 = 0) (hl : l ≠ []) : (firstL l).1 ≠ 0 ∧ ((firstL l).1 = 1 → saidL (firstL l).1 (l.take (firstL l).2.1) ≠ [] ∧ (∀ c ∈ saidL (firstL l).1 (l.take (firstL l).2.1), dig c = true) ∧ numV (saidL (firstL l).1 (l.take (firstL l).2.1)) ≤ 9223372036854775807) := by
  obtain ⟨c, r, rfl⟩ := List.exists_cons_of_ne_nil hl
  rw [firstL_cons] at h ⊢
  by_cases h1 : dig c = true
  · rw [if_pos h1] at h ⊢
    have hr : runL dig (c :: r) = runL dig r + 1 := by show (if dig c then _ else 0) = _; rw [if_pos h1]
    unfold numberL at h ⊢
    split at h
    · rename_i hc
      rw [if_pos hc]
      refine ⟨by simp, fun _ => ?_⟩
      show saidL 1 _ ≠ [] ∧ _
      have e : saidL 1 ((c :: r).take (runL dig (c :: r))) = (c :: r).take (runL dig (c :: r)) := if_neg (by decide)
      rw [show (((1 : Nat), runL dig (c :: r), (0 : Nat)) : Nat × Nat × Nat).2.1 = runL dig (c :: r) from rfl, show (((1 : Nat), runL dig (c :: r), (0 : Nat)) : Nat × Nat × Nat).1 = 1 from rfl, e]
      refine ⟨?_, runL_all dig (c :: r), hc.1⟩
      rw [hr]
      simp
    · cases h
  · rw [if_neg h1] at h ⊢
    by_cases h2 : ltr c = true
    · rw [if_pos h2] at h ⊢
      unfold nameL at h ⊢
      split
      · exact ⟨by simp, fun h => by simp at h⟩
      · rename_i hw
        rw [if_neg hw] at h
        split
        · rename_i h8
          rw [if_pos h8] at h
          cases h
        · exact ⟨by simp, fun h => by simp at h⟩
    · rw [if_neg h2] at h ⊢
      by_cases h3 : c = 34
      · rw [if_pos h3] at h ⊢
        unfold textL at h ⊢
        split
        · rename_i hw
          rw [if_pos hw] at h
          split
          · rename_i h8
            rw [if_pos h8] at h
            cases h
          · exact ⟨by simp, fun h => by simp at h⟩
        · rename_i hw
          rw [if_neg hw] at h
          cases h
      · rw [if_neg h3] at h ⊢
        unfold signL at h ⊢
        split
        · exact ⟨by simp, fun h => by simp at h⟩
        · rename_i hw
          rw [if_neg hw] at h
          split
          · exact ⟨by simp, fun h => by simp at h⟩
          · rename_i h8
            rw [if_neg h8] at h
            cases h

theorem said_len (k : Nat) (l : List UInt8) : (saidL k l).length ≤ l.length := by
  unfold saidL
  split
  · rw [List.length_drop, List.length_take]; omega
  · exact Nat.le_refl _

theorem lex_tokL (m : Nat) (l : List UInt8) (p : Nat) : p + l.length ≤ m → (lexL l p).2 = none → TokL m (lexL l p).1 := by
  refine lexL_ind (P := fun l p => p + l.length ≤ m → (lexL l p).2 = none → TokL m (lexL l p).1) ?_ ?_ ?_ ?_ ?_ ?_ l p
  · intro p hm _
    exact ⟨[], ⟨0, [], p⟩, rfl, rfl, rfl, by simpa using hm, fun t ht => by cases ht⟩
  · intro c r p h ih hm he
    rw [lexL_blank h] at he ⊢
    exact ih (by rw [List.length_cons] at hm; omega) he
  · intro c r p h h1 h2 hm he
    rw [lexL_rem_end h h1 h2]
    exact ⟨[], ⟨0, [], p + (c :: r).length⟩, rfl, rfl, rfl, hm, fun t ht => by cases ht⟩
  · intro c r p h h1 h2 ih hm he
    rw [lexL_rem h h1 h2] at he ⊢
    refine ih ?_ he
    have := runL_le (fun d => !decide (d = 10)) (c :: r)
    rw [List.length_drop]
    omega
  · intro c r p h h1 h2 hm he
    rw [lexL_bad h h1 h2] at he
    cases he
  · intro c r p h h1 h2 ih hm he
    have hs := first_size (c :: r) (by simp) h2
    have hf := first_tok (c :: r) h2 (by simp)
    rw [lexL_tok h h1 h2] at he ⊢
    obtain ⟨I, e, hT, h3, h4, h5, h6⟩ := ih (by rw [List.length_drop]; omega) he
    refine ⟨⟨(firstL (c :: r)).1, saidL (firstL (c :: r)).1 ((c :: r).take (firstL (c :: r)).2.1), p⟩ :: I, e, by rw [hT]; rfl, h3, h4, h5, fun t ht => ?_⟩
    rcases List.mem_cons.1 ht with rfl | ht
    · refine ⟨hf.1, hf.2, ?_, by show p ≤ m; omega⟩
      have h7 := said_len (firstL (c :: r)).1 ((c :: r).take (firstL (c :: r)).2.1)
      rw [List.length_take] at h7
      show (saidL _ _).length ≤ m
      omega
    · exact h6 t ht

theorem tokOK_of {m : Nat} {T : List Tok} (h : TokL m T) (hm : m ≤ 1000) (hl : T.length ≤ 1000) : TokOK T := by
  obtain ⟨I, e, rfl, h1, h2, h3, h4⟩ := h
  have hL : (I ++ [e]).length - 1 = I.length := by simp
  have hlast : (I ++ [e]).getD I.length default = e := by simp [List.getD]
  have hin : ∀ i, i < I.length → TokIn m ((I ++ [e]).getD i default) := fun i hi => by
    have : (I ++ [e]).getD i default = I[i] := by rw [List.getD, List.getElem?_append_left hi, List.getElem?_eq_getElem hi]; rfl
    rw [this]
    exact h4 _ (List.getElem_mem _)
  have all : ∀ i, i < (I ++ [e]).length → i < I.length ∨ i = I.length := fun i hi => by rw [List.length_append, List.length_singleton] at hi; omega
  refine ⟨by simp, hl, by rw [hL, hlast]; exact h1, fun i hi => (hin i (by rw [hL] at hi; exact hi)).1, fun i hi hk => ?_, fun i hi => ?_, fun i hi => ?_⟩
  · rcases all i hi with h5 | rfl
    · exact (hin i h5).2.1 hk
    · rw [hlast, h1] at hk; cases hk
  · rcases all i hi with h5 | rfl
    · exact Nat.le_trans (hin i h5).2.2.1 hm
    · rw [hlast, h2]; exact Nat.zero_le _
  · rcases all i hi with h5 | rfl
    · exact Nat.le_trans (hin i h5).2.2.2 hm
    · rw [hlast]; exact Nat.le_trans h3 hm

theorem tokOK_lex (l : List UInt8) (hl : l.length ≤ 600) (h : (lexL l 0).2 = none) : TokOK (lexL l 0).1 :=
  tokOK_of (lex_tokL 600 l 0 (by omega) h) (by omega) (by have := tokens_le l 0; omega)

end Go.Proofs.YtgelggdgbmldiaaGreatDoor

namespace Go.Proofs.YtgelggdgbmldiaaGreatDoor
open Go Go.RowKit Go.Shelf
set_option linter.unusedVariables false
set_option linter.unusedSimpArgs false

/-- A row of elements of k cells each, where it lies. -/
def RdG (w : World) (a : Option Addr) (xs : List Value) : Prop := 0 < xs.length → ∃ b off, a = some ⟨b, off, none⟩ ∧ ∀ k u, xs[k]? = some u → w.cell? ⟨b, off + k, none⟩ = some u
theorem RdG.keep {w w' : World} {S : Nat → Prop} {a : Option Addr} {xs : List Value} (h : RdG w a xs) (hk : Keeps S w w') (hr : 0 < xs.length → ∀ b off, a = some ⟨b, off, none⟩ → ¬ S b) : RdG w' a xs := fun h0 => by
  obtain ⟨b, off, e, hc⟩ := h h0
  exact ⟨b, off, e, fun k u hu => (hk.cell (cell_ltk (hc k u hu)) (hr h0 b off e)).trans (hc k u hu)⟩
theorem RdG.lt {w : World} {a : Option Addr} {xs : List Value} (h : RdG w a xs) (h0 : 0 < xs.length) {b off : Nat} (e : a = some ⟨b, off, none⟩) : b < w.heap.size := by
  obtain ⟨b', off', e', hc⟩ := h h0
  rw [e] at e'
  cases e'
  exact cell_ltk (hc 0 xs[0] (List.getElem?_eq_getElem h0))
theorem own_rdG {w : World} {e : TypeId} {k : Nat} {A : Option Addr} {n c : Nat} {xs : List Value} (h : w.ownsRow 0 e k (.slice A n c) n xs) : RdG w A xs := fun h0 => by
  rcases h.2 with ⟨e1, h1⟩ | ⟨g, cap, cur, e1, _⟩
  · rw [h.1, h1] at h0
    omega
  · have e2 : A = some ⟨g, 0, none⟩ := by injection e1
    subst e2
    refine ⟨g, 0, rfl, fun j u hu => ?_⟩
    rw [Nat.zero_add]
    have hj : j < n * k := by rw [← h.1]; exact (List.getElem?_eq_some_iff.1 hu).1
    exact (h.cellAt j hj).trans hu
theorem own_new {w : World} {e : TypeId} {k : Nat} {A : Option Addr} {n c : Nat} {xs : List Value} (h : w.ownsRow 0 e k (.slice A n c) n xs) (h0 : 0 < xs.length) {b off : Nat} (ea : A = some ⟨b, off, none⟩) : (Value.slice A n c).ownBlock = some b := by
  rw [ea]
  rfl

/-- A function, and where its params lie. -/
structure FM where
  d : Fnc
  a : Option Addr
  c : Nat
def FM.cells (x : FM) : List Value := [.string (ofL x.d.s), .int .i64 x.d.ln, .slice x.a x.d.ps.length x.c, .int .i64 x.d.ret, .int .i64 x.d.body]
def flatF (L : List FM) : List Value := L.flatMap FM.cells
theorem flatF_more (L : List FM) (x : FM) : flatF (L ++ [x]) = flatF L ++ x.cells := by simp [flatF]
theorem FM.one (x : FM) : ∀ u ∈ x.cells, u.oneCell' = true := by
  intro u hu
  simp only [FM.cells, List.mem_cons, List.not_mem_nil, or_false] at hu
  rcases hu with rfl | rfl | rfl | rfl | rfl <;> rfl
theorem flatF_length (L : List FM) : (flatF L).length = L.length * 5 := by
  induction L with
  | nil => rfl
  | cons a L ih => show (a.cells ++ flatF L).length = _; rw [List.length_append, ih, List.length_cons]; show 5 + _ = _; omega
theorem flatN_length (L : List NM) : (flatN L).length = L.length * 5 := by
  induction L with
  | nil => rfl
  | cons a L ih => rw [flatN_cons, List.length_append, ih, List.length_cons]; show 5 + _ = _; omega
theorem flatP_length (L : List (List UInt8 × Int)) : (flatP L).length = L.length * 2 := by
  induction L with
  | nil => rfl
  | cons a L ih => show (PmV a ++ flatP L).length = _; rw [List.length_append, ih, List.length_cons]; show 2 + _ = _; omega
theorem flatF_at (L : List FM) (i j : Nat) (hi : i < L.length) (hj : j < 5) : (flatF L)[i * 5 + j]? = (L[i]).cells[j]? := by
  induction L generalizing i with
  | nil => exact absurd hi (Nat.not_lt_zero _)
  | cons a L ih =>
    show (a.cells ++ flatF L)[i * 5 + j]? = _
    cases i with
    | zero => rw [List.getElem?_append_left (by show 0 * 5 + j < 5; omega), Nat.zero_mul, Nat.zero_add]; rfl
    | succ i =>
      rw [List.getElem?_append_right (by show 5 ≤ _; omega), show (i + 1) * 5 + j - a.cells.length = i * 5 + j by show _ - 5 = _; omega]
      exact ih i (by simpa using hi)
theorem flatN_at (L : List NM) (i j : Nat) (hi : i < L.length) (hj : j < 5) : (flatN L)[i * 5 + j]? = (L[i]).cells[j]? := by
  induction L generalizing i with
  | nil => exact absurd hi (Nat.not_lt_zero _)
  | cons a L ih =>
    rw [flatN_cons]
    cases i with
    | zero => rw [List.getElem?_append_left (by show 0 * 5 + j < 5; omega), Nat.zero_mul, Nat.zero_add]; rfl
    | succ i =>
      rw [List.getElem?_append_right (by show 5 ≤ _; omega), show (i + 1) * 5 + j - a.cells.length = i * 5 + j by show _ - 5 = _; omega]
      exact ih i (by simpa using hi)
theorem info_func : (Tryz.prog.info? 45).map (fun i => (i.zero, i.size, i.bytes)) = some (some (.agg #[.string ⟨#[]⟩, .int .i64 0, .slice none 0 0, .int .i64 0, .int .i64 0]), 5, 64) := by kernel_rfl

/-- The functions so far. -/
structure FnsM (B : Nat) (w : World) (R : Nat → Prop) (v : Value) (n : Nat) (L : List FM) : Prop where
  hn : n = L.length
  own : w.ownsRow 0 45 5 v n (flatF L)
  blk : ∀ g, v.ownBlock = some g → ¬ R g ∧ B ≤ g
  ps : ∀ x ∈ L, RdG w x.a (flatP x.d.ps) ∧ (0 < (flatP x.d.ps).length → ∀ b off, x.a = some ⟨b, off, none⟩ → ¬ R b ∧ B ≤ b ∧ v.ownBlock ≠ some b)
theorem FnsM.keep {B : Nat} {w w' : World} {R R' : Nat → Prop} {v : Value} {n : Nat} {L : List FM} (h : FnsM B w R v n L) (f : Fr R w R' w') : FnsM B w' R' v n L :=
  ⟨h.hn, ownsRow_keep h.own (fun g hg => f.1.block g (own_ltk h.own hg) (h.blk g hg).1), fun g hg => ⟨fun hr => (h.blk g hg).1 (f.2 g (own_ltk h.own hg) hr), (h.blk g hg).2⟩,
    fun x hx => ⟨(h.ps x hx).1.keep f.1 (fun h0 b off e => ((h.ps x hx).2 h0 b off e).1), fun h0 b off e => ⟨fun hr => ((h.ps x hx).2 h0 b off e).1 (f.2 b ((h.ps x hx).1.lt h0 e) hr), ((h.ps x hx).2 h0 b off e).2⟩⟩⟩
theorem FnsM.keeps {B : Nat} {w w' : World} {R : Nat → Prop} {v : Value} {n : Nat} {L : List FM} (h : FnsM B w R v n L) (k : Keeps (fun _ => False) w w') : FnsM B w' R v n L := h.keep ((Fr.refl R w).keeps k)
theorem FnsM.more {B : Nat} {w w1 w5 : World} {R : Nat → Prop} {v v5 : Value} {n : Nat} {L : List FM} (h : FnsM B w R v n L) (hR : ∀ b, R b → b < w.heap.size) (hB : B ≤ w.heap.size) (k1 : Keeps (fun _ => False) w w1) (x : FM) (hx : RdG w1 x.a (flatP x.d.ps)) (hxb : 0 < (flatP x.d.ps).length → ∀ b off, x.a = some ⟨b, off, none⟩ → ¬ R b ∧ B ≤ b ∧ v.ownBlock ≠ some b)
    (ho : w5.ownsRow 0 45 5 v5 (n + 1) (flatF L ++ x.cells)) (hg : w1.grownBy w5 v.ownBlock) (hb : v5.ownBlock = v.ownBlock ∨ v5.ownBlock = some w1.heap.size) : FnsM B w5 R v5 (n + 1) (L ++ [x]) := by
  have k15 : Keeps (fun b => v.ownBlock = some b) w1 w5 := ⟨hg.os, hg.tape, hg.output, hg.size, fun b hb hn => hg.block b hb (fun e => hn e.symm)⟩
  have s1 := k1.size
  have out : ∀ b, b < w1.heap.size → v.ownBlock ≠ some b → v5.ownBlock ≠ some b := fun b hb2 hn e => by
    rcases hb with e5 | e5
    · exact hn (by rw [← e5]; exact e)
    · rw [e5] at e
      cases e
      omega
  refine ⟨by rw [List.length_append, h.hn]; rfl, by rw [flatF_more]; exact ho, fun g hg5 => ?_, fun y hy => ?_⟩
  · rcases hb with e5 | e5
    · rw [e5] at hg5
      exact h.blk g hg5
    · rw [e5] at hg5
      cases hg5
      exact ⟨fun hr => by have := hR _ hr; omega, by omega⟩
  · rcases List.mem_append.1 hy with hy | hy
    · have hy1 := (h.ps y hy).1.keep k1 (fun _ _ _ _ h => h)
      refine ⟨hy1.keep k15 (fun h0 b off e => ((h.ps y hy).2 h0 b off e).2.2), fun h0 b off e => ⟨((h.ps y hy).2 h0 b off e).1, ((h.ps y hy).2 h0 b off e).2.1, out b (hy1.lt h0 e) ((h.ps y hy).2 h0 b off e).2.2⟩⟩
    · rw [List.mem_singleton.1 hy]
      exact ⟨hx.keep k15 (fun h0 b off e => (hxb h0 b off e).2.2), fun h0 b off e => ⟨(hxb h0 b off e).1, (hxb h0 b off e).2.1, out b (hx.lt h0 e) (hxb h0 b off e).2.2⟩⟩

/-- A tree that can be read: its nodes and functions lie in blocks from B on. -/
structure TreeR (B : Nat) (w : World) (A A' : Option Addr) (nd : List Nd) (fs : List Fnc) : Prop where
  nodes : ∃ L : List NM, L.map NM.d = nd ∧ RdG w A (flatN L) ∧ ∀ x ∈ L, RdI w x.a x.d.l
  fns : ∃ L : List FM, L.map FM.d = fs ∧ RdG w A' (flatF L) ∧ ∀ x ∈ L, RdG w x.a (flatP x.d.ps)
theorem TreeR.keep {B : Nat} {w w' : World} {A A' : Option Addr} {nd : List Nd} {fs : List Fnc} (h : TreeR B w A A' nd fs) (k : Keeps (fun _ => False) w w') : TreeR B w' A A' nd fs := by
  obtain ⟨⟨L, h1, h2, h3⟩, ⟨M, h4, h5, h6⟩⟩ := h
  exact ⟨⟨L, h1, h2.keep k (fun _ _ _ _ h => h), fun x hx => (h3 x hx).keep k (fun _ _ _ _ h => h)⟩, ⟨M, h4, h5.keep k (fun _ _ _ _ h => h), fun x hx => (h6 x hx).keep k (fun _ _ _ _ h => h)⟩⟩

/-- What a parser tells. -/
def TreeE (B : Nat) (res : (Nat × Nat) ⊕ (List Nd × List Fnc)) (e : Ending) (w' : World) : Prop :=
  match res with
  | .inl pe => e = .returned (.tuple #[.agg #[.slice none 0 0, .slice none 0 0], .int .i64 (pe.1 : Int), .int .i64 (pe.2 : Int)])
  | .inr t => ∃ A c A' c', e = .returned (.tuple #[.agg #[.slice A t.1.length c, .slice A' t.2.length c'], .int .i64 0, .int .i64 0]) ∧ TreeR B w' A A' t.1 t.2

/-- What a parser in memory and its functions are as a tree. -/
theorem tree_of {B : Nat} {w : World} {P : Nat} {src : ByteArray} {T : List Tok} {R : Nat → Prop} {s : PS} {n : Nat} {L : List FM} {A' : Option Addr} {c' : Nat} (hp : Par w P src T R s) (hf : FnsM B w R (.slice A' n c') n L) :
    ∃ A c, w.cell? ⟨P, 5, none⟩ = some (.slice A s.nd.length c) ∧ TreeR 0 w A A' s.nd (L.map FM.d) := by
  obtain ⟨A0, cT, v, M, h⟩ := hp
  obtain ⟨A, c, rfl⟩ := own_formk h.own
  have hl : M.length = s.nd.length := by rw [← h.nd, List.length_map]
  refine ⟨A, c, by rw [← hl]; exact h.c5, ⟨M, h.nd, own_rdG h.own, fun x hx => (h.ls x hx).1⟩, ⟨L, rfl, own_rdG hf.own, fun x hx => (hf.ps x hx).1⟩⟩

theorem FnsM.keepC {B : Nat} {w w' : World} {R : Nat → Prop} {v : Value} {n : Nat} {L : List FM} (h : FnsM B w R v n L) {C : Nat} (k : Keeps (fun b => b = C) w w') (hC : C < B) : FnsM B w' R v n L :=
  ⟨h.hn, ownsRow_keep h.own (fun g hg => k.block g (own_ltk h.own hg) (fun e => by have := (h.blk g hg).2; have e : g = C := e; omega)), h.blk,
    fun x hx => ⟨(h.ps x hx).1.keep k (fun h0 b off e e2 => by have := ((h.ps x hx).2 h0 b off e).2.1; have e2 : b = C := e2; omega), (h.ps x hx).2⟩⟩
theorem fn_out {w' : World} {Af : Option Addr} {n cf Bw B : Nat} {l : List (List UInt8 × Int)} {R' : Nat → Prop} {v : Value} (ho : w'.ownsRow 0 58 2 (.slice Af n cf) n (flatP l)) (hb : ∀ g, (Value.slice Af n cf).ownBlock = some g → ¬ R' g ∧ Bw ≤ g) (hv : ∀ g, v.ownBlock = some g → g < Bw) (hB : B ≤ Bw) :
    0 < (flatP l).length → ∀ b off, Af = some ⟨b, off, none⟩ → ¬ R' b ∧ B ≤ b ∧ v.ownBlock ≠ some b := fun h0 b off e => by
  have e1 : (Value.slice Af n cf).ownBlock = some b := by rw [e]; rfl
  exact ⟨(hb b e1).1, Nat.le_trans hB (hb b e1).2, fun e2 => by have h1 := hv b e2; have h2 := (hb b e1).2; omega⟩
theorem small_next {L : List FM} {i : Nat} (hs : ∀ j (hj : j < L.length), j < i → ¬ 3 < (L[j]).d.ps.length) (hi : i < L.length) (h : ¬ 3 < (L[i]).d.ps.length) : ∀ j (hj : j < L.length), j < i + 1 → ¬ 3 < (L[j]).d.ps.length := fun j hj hji => by
  by_cases e : j = i
  · subst e
    exact h
  · exact hs j hj (by omega)
theorem treeE_inl {B p er : Nat} {res : (Nat × Nat) ⊕ (List Nd × List Fnc)} (h : res = .inl (p, er)) (w' : World) : TreeE B res (.returned (.tuple #[.agg #[.slice none 0 0, .slice none 0 0], .int .i64 (p : Int), .int .i64 (er : Int)])) w' := by
  rw [h]
  exact rfl
theorem treeE_inr {B : Nat} {res : (Nat × Nat) ⊕ (List Nd × List Fnc)} {nd : List Nd} {fs : List Fnc} (h : res = .inr (nd, fs)) {w' : World} {A A' : Option Addr} {c c' m n : Nat} (hm : m = nd.length) (hn : n = fs.length) (ht : TreeR B w' A A' nd fs) : TreeE B res (.returned (.tuple #[.agg #[.slice A m c, .slice A' n c'], .int .i64 0, .int .i64 0])) w' := by
  rw [h, hm, hn]
  exact ⟨A, c, A', c', rfl, ht⟩

theorem tree_of2 {B : Nat} {w w' : World} {P C : Nat} {src : ByteArray} {T : List Tok} {R : Nat → Prop} {s : PS} {n m : Nat} {L : List FM} {A A' : Option Addr} {c c' : Nat} (hp : Par w P src T R s) (hf : FnsM B w R (.slice A' n c') n L) (h5 : w.cell? ⟨P, 5, none⟩ = some (.slice A m c)) (k : Keeps (fun b => b = C) w w') (hR : ¬ R C) (hC : C < B) :
    TreeR 0 w' A A' s.nd (L.map FM.d) := by
  obtain ⟨A0, cT, v, M, h⟩ := hp
  have e := h.c5.symm.trans h5
  injection e with e
  subst e
  have hq := hf.keepC k hC
  have hm : m = M.length := by
    rcases h.own.2 with ⟨e1, h1⟩ | ⟨g, cap, cur, e1, _⟩
    · injection e1 with _ e2 _
      omega
    · injection e1
  subst hm
  refine ⟨⟨M, h.nd, (own_rdG h.own).keep k (fun h0 b off e hc => hR (by have hc : b = C := hc; rw [← hc]; exact (h.vb b (by rw [e]; rfl)).1)), fun x hx => (h.ls x hx).1.keep k (fun h0 b off e hc => hR (by have hc : b = C := hc; rw [← hc]; exact ((h.ls x hx).2 h0 b off e).1))⟩, ⟨L, rfl, own_rdG hq.own, fun x hx => (hq.ps x hx).1⟩⟩

end Go.Proofs.YtgelggdgbmldiaaGreatDoor

namespace Go.Proofs.YtgelggdgbmldiaaGreatDoor
open Go Go.RowKit Go.Shelf
set_option linter.unusedVariables false
set_option linter.unusedSimpArgs false

theorem results_cell_tmp3 {fn : Func} {p u v : Tmp} {ty : TypeId} (h : fn.results = #[.cell p ty, .tmp u, .tmp v]) (tmps : Array Value) (P : Program) (w : World) :
    (results fn tmps).run P w =
      ((asAddr (tmps.getD p undef)).run P w).andThen fun a w₁ => ((loadVar ty a).run P w₁).andThen fun x w₂ => .ok (.tuple #[x, tmps.getD u undef, tmps.getD v undef]) w₂ := by
  simp only [results, h]
  simp [Sem.run_bind, Result.andThen]

set_option maxRecDepth 100000 in
set_option maxHeartbeats 16000000 in
theorem pall_err (s : ByteArray) (w : World) (p er : Nat) (her : er ≠ 0) (LC : ∀ w1, Keeps (fun _ => False) w w1 → Calls Tryz.prog 14 #[.string s] w1 fun e w' => e = .returned (.tuple #[.slice none 0 0, .int .i64 (p : Int), .int .i64 (er : Int)]) ∧ Keeps (fun _ => False) w1 w') :
    Calls Tryz.prog 8 #[.string s] w fun e w' => e = .returned (.tuple #[.agg #[.slice none 0 0, .slice none 0 0], .int .i64 (p : Int), .int .i64 (er : Int)]) ∧ Keeps (fun _ => False) w w' := by
  have HLC := Lib.hid LC
  have hd : ((er : Int) != 0) = true := by simp; omega
  obtain ⟨ei, hei⟩ : ∃ ei : Int, ei = er := ⟨_, rfl⟩
  rw [← hei] at hd HLC ⊢
  obtain ⟨pi, hpi⟩ : ∃ pi : Int, pi = p := ⟨_, rfl⟩
  rw [← hpi] at HLC ⊢
  clear LC hei hpi her
  go_enter Tryz.func8, Tryz.ntmps8
  go_upto_region 1 with fail
  have ka := Keeps.one w (.cells #[.slice none 0 0, .slice none 0 0] 27)
  obtain ⟨C, hC⟩ : ∃ C, C = w.heap.size := ⟨_, rfl⟩
  obtain ⟨w1, hw⟩ : ∃ w1, w1 = w.alloc (.cells #[.slice none 0 0, .slice none 0 0] 27) := ⟨_, rfl⟩
  have z : Loc w1 (fun _ => False) C [.slice none 0 0, .slice none 0 0] := by rw [hw, hC]; exact Loc.new (fun h => h) [.slice none 0 0, .slice none 0 0] 27
  rw [← hC]
  rw [← hw] at ka ⊢
  have Z := Lib.hid z
  have KA := Lib.hid ka
  have HC := Lib.hid hC
  have CC := Lib.hid (HLC.out w1 ka)
  clear z ka hC hw HLC
  go_wp2_with fail
  refine CC.out.mono ?_
  rintro e w2 ⟨rfl, k2⟩
  have Z2 := Z.out.keeps k2
  have z0 := Z2.cells 0 _ rfl
  have z1 := Z2.cells 1 _ rfl
  have f0 := Z2.fz 0
  have f1 := Z2.fz 1
  have KK : Hid (∀ v0 v1 : Value, Keeps (fun _ => False) w ((w2.setCell ⟨C, 0, none⟩ v0).setCell ⟨C, 1, none⟩ v1)) := Lib.hid fun v0 v1 => by
    have k := (KA.out.trans k2 (fun _ _ h => h)).mono (T := fun b => w.heap.size ≤ b) (fun _ _ h => h.elim)
    have hc : w.heap.size ≤ C := by rw [HC.out]; exact Nat.le_refl _
    exact kback ((k.setCell (p := ⟨C, 0, none⟩) (fun _ => hc) v0).setCell (p := ⟨C, 1, none⟩) (fun _ => hc) v1) rfl
  clear Z2 CC k2 Z
  go_wp2_with fail
  (try simp only [Exit.inBlock, Exit.then])
  refine bodyPost_ret (v := .tuple #[.agg #[.slice none 0 0, .slice none 0 0], .int .i64 pi, .int .i64 ei]) ?_ rfl ?_
  · rw [results_cell_tmp3 rfl]
    go_simp
  exact ⟨rfl, KK.out _ _⟩

end Go.Proofs.YtgelggdgbmldiaaGreatDoor

namespace Go.Proofs.YtgelggdgbmldiaaGreatDoor
open Go.RowKit Go.Shelf
set_option linter.unusedVariables false
set_option linter.unusedSimpArgs false

theorem run_step {p : UInt8 → Bool} {r : List UInt8} {k : Nat} (hk : k ≤ runL p r) : (∀ c, r[k]? = some c → (p c = true → k + 1 ≤ runL p r) ∧ (p c = false → k = runL p r)) ∧ (r[k]? = none → k = runL p r) := by
  refine ⟨fun c hc => ⟨fun hp => ?_, fun hp => ?_⟩, fun hn => ?_⟩
  · rcases Nat.lt_or_ge k (runL p r) with h | h
    · exact h
    · exfalso
      have e : k = runL p r := by omega
      rw [e] at hc
      have := runL_stop p r c hc
      rw [hp] at this
      cases this
  · rcases Nat.lt_or_ge k (runL p r) with h | h
    · exfalso
      obtain ⟨h1, h2⟩ := List.getElem?_eq_some_iff.1 hc
      have h3 : (r.take (runL p r))[k]? = some c := by rw [List.getElem?_take, if_pos h]; exact hc
      have := runL_all p r c (List.mem_of_getElem? h3)
      rw [hp] at this
      cases this
    · omega
  · have h1 := List.getElem?_eq_none_iff.1 hn
    have h2 := runL_le p r
    omega
theorem at_drop (s : ByteArray) (i k : Nat) (h : i + k < s.size) : (s.data.toList.drop i)[k]? = some s[i + k] := by
  rw [List.getElem?_drop]
  exact at_byte s (i + k) h

theorem ext_mid2 (s : ByteArray) (a b : Nat) : (s.extract a b).data.toList = (s.data.toList.drop a).take (b - a) := by simp

/-- What text tells. -/
def TextR (r : List UInt8) (i : Nat) (T : ByteArray) (en er : Nat) : Prop := er = (textL r).2.2 ∧ (er = 0 → T.data.toList = r.take (runL txc r) ∧ en = i + (runL txc r + 2) ∧ textL r = (2, runL txc r + 2, 0))
theorem textR_bad {r : List UInt8} (i : Nat) (h : r[runL txc r]? ≠ some 34) : TextR r i { data := #[] } i 11 := by
  have e : textL r = (0, 0, 11) := by unfold textL; rw [if_neg h]
  exact ⟨by rw [e], fun h => by cases h⟩
theorem textR_long {r : List UInt8} (i : Nat) (h : r[runL txc r]? = some 34) (h2 : 12 < runL txc r) : TextR r i { data := #[] } i 4 := by
  have e : textL r = (0, 0, 4) := by unfold textL; rw [if_pos h, if_pos h2]
  exact ⟨by rw [e], fun h => by cases h⟩
theorem textR_ok {r : List UInt8} (i : Nat) (h : r[runL txc r]? = some 34) (h2 : ¬ 12 < runL txc r) (T : ByteArray) (hT : T.data.toList = r.take (runL txc r)) : TextR r i T (i + (runL txc r + 2)) 0 := by
  have e : textL r = (2, runL txc r + 2, 0) := by unfold textL; rw [if_pos h, if_neg h2]
  exact ⟨by rw [e], fun _ => ⟨hT, rfl, e⟩⟩

set_option maxRecDepth 100000 in
set_option maxHeartbeats 4000000 in
theorem rtext_any (s : ByteArray) (hs : s.size ≤ 1000) (i : Nat) (hi : i < s.size) (w : World) : Calls Tryz.prog 46 #[.string s, .int .i64 i] w fun e w' => (∃ T en er, e = .returned (.tuple #[.string T, .int .i64 ((en : Nat) : Int), .int .i64 ((er : Nat) : Int)]) ∧ TextR (s.data.toList.drop (i + 1)) i T en er) ∧ w' = w := by
  obtain ⟨r, hr⟩ : ∃ r : List UInt8, r = s.data.toList.drop (i + 1) := ⟨_, rfl⟩
  have hrl : r.length = s.size - (i + 1) := by rw [hr, List.length_drop, len_size]
  rw [← hr]
  have HR := Lib.hid hr
  have HRL := Lib.hid hrl
  clear hr hrl
  go_enter Tryz.func46, Tryz.ntmps46
  go_wp2_with fail
  go_loopw [7] (fun s7 wr => ∃ (k P : Nat), P = i + 1 + k ∧ P ≤ s.size ∧ s7 = .int .i64 P ∧ k ≤ runL txc r ∧ wr = w) (fun s7 _ => s.size + 1 - (intOf s7).toNat)
  case atStart => exact ⟨0, i + 1, rfl, by omega, by go_num, by omega, rfl⟩
  case round =>
    obtain ⟨k, P, hP, hPs, rfl, hk, hw⟩ := hrel
    obtain rfl : w = wr := hw.symm
    clear hw
    obtain ⟨st1, st2⟩ := run_step hk
    have sw1 : IntKind.i64.wrap ((P : Int) - (i : Int)) = (k : Int) + 1 := by rw [IntWalk.i64_in _ (by omega)]; omega
    have sw2 : (P : Int) - (i : Int) = (k : Int) + 1 := by omega
    by_cases hN : P < s.size
    · have hNI : (P : Int) < (s.size : Int) := by omega
      have hNd : decide ((P : Int) < (s.size : Int)) = true := decide_eq_true hNI
      have hNg : ¬ (s.size : Int) ≤ (P : Int) := by omega
      have hNgd : decide ((s.size : Int) ≤ (P : Int)) = false := decide_eq_false hNg
      have hP0 : (0 : Int) ≤ (P : Int) := by omega
      have hc : r[k]? = some s[P] := by
        have h1 := at_drop s (i + 1) k (by omega)
        rw [HR.out, h1]
        congr 1
        congr 1
        exact hP.symm
      have h2 := st1 _ hc
      obtain ⟨n, hn⟩ : ∃ n : Nat, n = s[P].toNat := ⟨_, rfl⟩
      have hx : txc s[P] = true ↔ (32 ≤ n ∧ n ≤ 126) ∧ n ≠ 34 := by
        unfold txc
        rw [← hn]
        simp
      have h34 : n = 34 → s[P] = 34 := fun h => UInt8.toNat_inj.1 (by rw [← hn, h]; rfl)
      have HX := Lib.hid hx
      have H2 := Lib.hid h2
      have HC := Lib.hid hc
      have H34 := Lib.hid h34
      have HP := Lib.hid hP
      have HNe := Lib.hid hn
      clear hx h2 hc h34 st1 st2 hP hn
      have hgo : ∀ b : Bool, ((b = true) ↔ (32 ≤ n ∧ n ≤ 126) ∧ n ≠ 34) → txc s[P] = b := fun b hb => by
        rw [Bool.eq_iff_iff, HX.out, hb]
      by_cases a1 : 32 ≤ n
      · have e1 : (32 : Int) ≤ (s[P].toNat : Int) := by have := HNe.out; omega
        have d1 : decide ((32 : Int) ≤ (s[P].toNat : Int)) = true := decide_eq_true e1
        by_cases a2 : n ≤ 126
        · have e2 : (s[P].toNat : Int) ≤ 126 := by have := HNe.out; omega
          have d2 : decide ((s[P].toNat : Int) ≤ 126) = true := decide_eq_true e2
          by_cases a3 : n = 34
          · have e3 : ((s[P].toNat : Int) != 34) = false := by have := HNe.out; simp; omega
            have hk2 : k = runL txc r := H2.out.2 (hgo false (by simp; omega))
            have hq : r[runL txc r]? = some 34 := by rw [← hk2, HC.out, H34.out a3]
            by_cases h12 : 12 < k
            · have h12I : (12 : Int) < (k : Int) := by omega
              have h12d : decide ((12 : Int) < (k : Int)) = true := decide_eq_true h12I
              have HT := Lib.hid (textR_long i hq (by omega))
              have A3 := Lib.hid a3
              clear hq hk2 a3 hgo
              go_wp2
              go_ret3
              exact ⟨⟨_, i, 4, rfl, HT.out⟩, rfl⟩
            · have h12I : ¬ (12 : Int) < (k : Int) := by omega
              have h12d : decide ((12 : Int) < (k : Int)) = false := decide_eq_false h12I
              have hT : (s.extract (i + 1) P).data.toList = r.take (runL txc r) := by
                rw [ext_mid2, ← HR.out, HP.out, ← hk2]
                congr 1
                omega
              have HT := Lib.hid (textR_ok i hq (by omega) _ hT)
              rw [← hk2] at HT
              have hi1 : (0 : Int) ≤ (i : Int) + 1 := by omega
              have hiP : (i : Int) + 1 ≤ (P : Int) := by have := HP.out; omega
              have hPs2 : (P : Int) ≤ (s.size : Int) := by omega
              have ti : ((i : Int) + 1).toNat = i + 1 := by omega
              have A3 := Lib.hid a3
              have hend : (P : Int) + 1 = ((i + (k + 2) : Nat) : Int) := by have := HP.out; omega
              have HE := Lib.hid hend
              clear hq hk2 a3 hgo hT hend
              go_wp2
              go_ret3
              exact ⟨⟨_, i + (k + 2), 0, by rw [← HE.out]; rfl, HT.out⟩, rfl⟩
          · have e3 : ((s[P].toNat : Int) != 34) = true := by have := HNe.out; simp; omega
            have hk2 : k + 1 ≤ runL txc r := H2.out.1 (hgo true (by simp; omega))
            have A3 := Lib.hid a3
            clear a3 hgo
            go_wp2
            go_roundw
            case rel => exact ⟨k + 1, P + 1, by have := HP.out; omega, by omega, by go_num, hk2, by first | rfl | trivial⟩
            case measure => simp [intOf]; omega
        · have e2 : ¬ (s[P].toNat : Int) ≤ 126 := by have := HNe.out; omega
          have d2 : decide ((s[P].toNat : Int) ≤ 126) = false := decide_eq_false e2
          have e3 : ((s[P].toNat : Int) != 34) = true := by have := HNe.out; simp; omega
          have hk2 : k = runL txc r := H2.out.2 (hgo false (by simp; omega))
          have HT := Lib.hid (textR_bad (r := r) i (by rw [← hk2, HC.out]; intro h; have := HNe.out; rw [Option.some.inj h] at this; have : n = 34 := this; omega))
          clear hk2 hgo
          go_wp2
          go_ret3
          exact ⟨⟨_, i, 11, rfl, HT.out⟩, rfl⟩
      · have e1 : ¬ (32 : Int) ≤ (s[P].toNat : Int) := by have := HNe.out; omega
        have d1 : decide ((32 : Int) ≤ (s[P].toNat : Int)) = false := decide_eq_false e1
        have e3 : ((s[P].toNat : Int) != 34) = true := by have := HNe.out; simp; omega
        have hk2 : k = runL txc r := H2.out.2 (hgo false (by simp; omega))
        have HT := Lib.hid (textR_bad (r := r) i (by rw [← hk2, HC.out]; intro h; have := HNe.out; rw [Option.some.inj h] at this; have : n = 34 := this; omega))
        clear hk2 hgo
        go_wp2
        go_ret3
        exact ⟨⟨_, i, 11, rfl, HT.out⟩, rfl⟩
    · have hNd : decide ((P : Int) < (s.size : Int)) = false := decide_eq_false (by omega)
      have hNg : (s.size : Int) ≤ (P : Int) := by omega
      have hNgd : decide ((s.size : Int) ≤ (P : Int)) = true := decide_eq_true hNg
      have hkn : r[k]? = none := List.getElem?_eq_none_iff.2 (by rw [HRL.out]; omega)
      have hk2 := st2 hkn
      have HT := Lib.hid (textR_bad (r := r) i (by rw [← hk2, hkn]; intro h; cases h))
      clear hk2 hkn st1 st2
      go_wp2
      go_ret3
      exact ⟨⟨_, i, 11, rfl, HT.out⟩, rfl⟩

end Go.Proofs.YtgelggdgbmldiaaGreatDoor

namespace Go.Proofs.YtgelggdgbmldiaaGreatDoor
open Go.RowKit Go.Shelf
set_option linter.unusedVariables false
set_option linter.unusedSimpArgs false

def signS (l : List UInt8) : List UInt8 := if isTwo l then l.take 2 else if onesL.contains (l.headD 0) then l.take 1 else []

theorem two_get (l : List UInt8) : isTwo l = true ↔ ∃ k, k < 5 ∧ 2 ≤ l.length ∧ twosL.getD k [] = l.take 2 := by
  have hk : ∀ k, k < 5 → (twosL.getD k []).length = 2 := by decide
  unfold isTwo
  rw [List.any_eq_true]
  constructor
  · rintro ⟨t, ht, hp⟩
    obtain ⟨k, hk1, e⟩ := List.mem_iff_getElem.1 ht
    have e2 : twosL.getD k [] = t := by rw [← e]; simp [List.getD, hk1]
    have h2 := hk k hk1
    rw [e2] at h2
    obtain ⟨r, hr⟩ := List.isPrefixOf_iff_prefix.1 hp
    refine ⟨k, hk1, by rw [← hr, List.length_append]; omega, ?_⟩
    rw [e2, ← hr, ← h2, List.take_left]
  · rintro ⟨k, hk1, h2, e⟩
    have hk2 : k < twosL.length := hk1
    refine ⟨twosL.getD k [], ?_, ?_⟩
    · have : twosL.getD k [] = twosL[k] := by simp [List.getD, hk2]
      rw [this]
      exact List.getElem_mem hk2
    · rw [e]
      exact List.isPrefixOf_iff_prefix.2 (List.take_prefix 2 l)

def oneB : ByteArray := { data := #[40, 41, 123, 125, 91, 93, 44, 59, 61, 60, 43, 45, 42, 47, 37, 33] }
theorem one_get (c : UInt8) : onesL.contains c = true ↔ ∃ k, ∃ h : k < oneB.size, oneB[k] = c := by
  rw [List.contains_iff_mem, List.mem_iff_getElem]
  constructor
  · rintro ⟨k, hk, e⟩
    exact ⟨k, hk, e⟩
  · rintro ⟨k, hk, e⟩
    exact ⟨k, hk, e⟩

set_option maxRecDepth 100000 in
set_option maxHeartbeats 4000000 in
theorem rsign_any (s : ByteArray) (hs : s.size ≤ 1000) (h1 : 0 < s.size) (w : World) : Calls Tryz.prog 47 #[.string s] w fun e w' => (∃ T : ByteArray, e = .returned (.string T) ∧ T.data.toList = signS s.data.toList) ∧ Keeps (fun _ => False) w w' := by
  obtain ⟨l, hl⟩ : ∃ l : List UInt8, l = s.data.toList := ⟨_, rfl⟩
  have hlen : l.length = s.size := by rw [hl, len_size]
  have h0 : l[0]? = some s[0] := by rw [hl]; exact at_byte s 0 h1
  rw [← hl]
  have HL := Lib.hid hl
  have HLN := Lib.hid hlen
  have H0 := Lib.hid h0
  clear hl hlen h0
  go_enter Tryz.func47, Tryz.ntmps47
  go_wp2_with fail
  generalize hwA : w.alloc _ = wA
  have kA : Keeps (fun _ => False) w wA := by rw [← hwA]; exact (Keeps.refl _ _).alloc _
  have hc : ∀ k, k < 5 → wA.cell? ⟨w.heap.size, k, none⟩ = some (.string (ofL (twosL.getD k []))) := fun k hk => by
    have h16 : k = 0 ∨ k = 1 ∨ k = 2 ∨ k = 3 ∨ k = 4 := by omega
    rw [← hwA]
    rcases h16 with rfl | rfl | rfl | rfl | rfl <;> (simp; rfl)
  obtain ⟨B, hB⟩ : ∃ B, B = w.heap.size := ⟨_, rfl⟩
  rw [← hB] at hc ⊢
  have KA := Lib.hid kA
  have HC := Lib.hid hc
  clear hwA kA hc hB
  have h2d : ∀ b, b = decide ((2 : Int) ≤ (s.size : Int)) → True := fun _ _ => trivial
  go_loopw [4] (fun s4 wr => ∃ (k n : Nat), k ≤ 5 ∧ s4 = .int .i64 k ∧ (∀ j, j < k → 2 ≤ l.length → twosL.getD j [] ≠ l.take 2) ∧ wr = wA.drewN n) (fun s4 _ => 6 - (intOf s4).toNat)
  case atStart => exact ⟨0, 0, Nat.zero_le _, rfl, fun j h => by omega, rfl⟩
  case round =>
    obtain ⟨k, n, hk, rfl, hno, hw⟩ := hrel
    have HW := Lib.hid hw
    have HNO := Lib.hid hno
    have kr : Keeps (fun _ => False) w wr := KA.out.trans (by rw [hw]; exact drew_keeps wA n) (fun _ _ h => h)
    have KR := Lib.hid kr
    clear hw hno kr h2d
    by_cases h5 : k < 5
    · have h5I : (k : Int) < 5 := by omega
      have h5d : decide ((k : Int) < 5) = true := decide_eq_true h5I
      have hk0 : (0 : Int) ≤ (k : Int) := by omega
      have c0 : wr.cell? ⟨B, k, none⟩ = some (.string (ofL (twosL.getD k []))) := by rw [HW.out]; simpa using HC.out k h5
      obtain ⟨X, hX⟩ : ∃ X : ByteArray, X = ofL (twosL.getD k []) := ⟨_, rfl⟩
      rw [← hX] at c0
      have hXl : X.data.toList = twosL.getD k [] := by rw [hX]; exact ofL_list _
      by_cases h2 : 2 ≤ s.size
      · have h2I : (2 : Int) ≤ (s.size : Int) := by omega
        have h2d : decide ((2 : Int) ≤ (s.size : Int)) = true := decide_eq_true h2I
        have hYl : (s.extract 0 2).data.toList = l.take 2 := by rw [ext_take, HL.out]
        by_cases he : twosL.getD k [] = l.take 2
        · have q : ((s.extract 0 2).toList == X.toList) = true := by rw [toList_data, toList_data, hXl, hYl, he]; simp
          have HT : Hid (X.data.toList = signS l) := by
            unfold signS
            rw [if_pos ((two_get l).2 ⟨k, h5, by rw [HLN.out]; exact h2, he⟩), hXl, he]
            exact Lib.hid rfl
          clear he hX hXl hYl
          go_wp2_with fail
          go_quiet (fail)
          have c0 : (wr.drewN nq).cell? ⟨B, k, none⟩ = some (.string X) := by simpa using c0
          have K2 := Lib.hid (KR.out.trans (drew_keeps wr nq) (fun _ _ h => h))
          go_wp2
          go_ret
          exact ⟨⟨X, rfl, HT.out⟩, K2.out⟩
        · have q : ((s.extract 0 2).toList == X.toList) = false := by rw [toList_data, toList_data, hXl, hYl]; exact beq_eq_false_iff_ne.2 (fun e => he e.symm)
          have HN : Hid (∀ j, j < k + 1 → 2 ≤ l.length → twosL.getD j [] ≠ l.take 2) := fun j hj => by
            rcases Nat.lt_or_ge j k with h3 | h3
            · exact HNO.out j h3
            · obtain rfl : j = k := by omega
              exact fun _ => he
          clear he hX hXl hYl
          go_wp2_with fail
          go_quiet (fail)
          go_wp2
          go_roundw
          case rel => exact ⟨k + 1, n + nq, by omega, by go_num, HN.out, by rw [HW.out, World.drewN_drewN]⟩
          case measure => simp [intOf]; omega
      · have h2d : decide ((2 : Int) ≤ (s.size : Int)) = false := decide_eq_false (by omega)
        have HN : Hid (∀ j, j < k + 1 → 2 ≤ l.length → twosL.getD j [] ≠ l.take 2) := fun j hj h => by have := HLN.out; omega
        clear hX hXl
        go_wp2_with fail
        go_quiet (fail)
        go_wp2
        go_roundw
        case rel => exact ⟨k + 1, n + nq, by omega, by go_num, HN.out, by rw [HW.out, World.drewN_drewN]⟩
        case measure => simp [intOf]; omega
    · obtain rfl : k = 5 := by omega
      have hno2 : isTwo l = false := by
        cases h : isTwo l with
        | false => rfl
        | true =>
          obtain ⟨j, h2, h3, h4⟩ := (two_get l).1 h
          exact absurd h4 (HNO.out j h2 h3)
      have hhd : l.headD 0 = s[0] := by
        have := H0.out
        cases hl : l with
        | nil => rw [hl] at this; cases this
        | cons c r => rw [hl] at this; simpa using this
      have hsg : signS l = if onesL.contains s[0] then l.take 1 else [] := by unfold signS; rw [if_neg (by rw [hno2]; decide), hhd]
      have hl1 : l.take 1 = [s[0]] := by
        have := H0.out
        cases hl : l with
        | nil => rw [hl] at this; cases this
        | cons c r => rw [hl] at this; simp at this; rw [this]; rfl
      rw [hl1] at hsg
      have HSG := Lib.hid hsg
      have hs0 : (0 : Int) < (s.size : Int) := by omega
      clear hno2 hhd hsg hl1
      obtain ⟨wo, rfl⟩ : ∃ wo, wo = wr := ⟨_, rfl⟩
      go_wp2_with fail
      go_loopw [6] (fun s6 wx => ∃ (k m : Nat), k ≤ 16 ∧ s6 = .int .i64 k ∧ (∀ j, ∀ h : j < oneB.size, j < k → oneB[j] ≠ s[0]) ∧ wx = wo.drewN m) (fun s6 _ => 17 - (intOf s6).toNat)
      case atStart => exact ⟨0, 0, Nat.zero_le _, rfl, fun j _ h => by omega, rfl⟩
      case round =>
        obtain ⟨k, m, hk, rfl, hno, hw⟩ := hrel
        have HWX := Lib.hid hw
        have kx : Keeps (fun _ => False) w wr := KR.out.trans (by rw [hw]; exact drew_keeps wo m) (fun _ _ h => h)
        have KX := Lib.hid kx
        have HNO2 := Lib.hid hno
        clear hw kx hno
        by_cases h16 : k < 16
        · have h6I : (k : Int) < 16 := by omega
          have h6d : decide ((k : Int) < 16) = true := decide_eq_true h6I
          have hk0 : (0 : Int) ≤ (k : Int) := by omega
          have hk1 : (k : Int) + 1 ≤ 16 := by omega
          have hkB : k < oneB.size := h16
          by_cases he : oneB[k] = s[0]
          · have q : ((s[0].toNat : Int) == ((({ data := #[40, 41, 123, 125, 91, 93, 44, 59, 61, 60, 43, 45, 42, 47, 37, 33] } : ByteArray)[k]'hkB).toNat : Int)) = true := by
              show ((s[0].toNat : Int) == (oneB[k].toNat : Int)) = true
              rw [he]
              simp
            have hT : (oneB.extract k (k + 1)).data.toList = signS l := by
              rw [HSG.out, if_pos ((one_get _).2 ⟨k, hkB, he⟩), ext_one oneB k hkB, he]
            have HT := Lib.hid hT
            clear he hT
            go_wp2_with fail
            go_quiet (fail)
            have K2 := Lib.hid (KX.out.trans (drew_keeps _ nq) (fun _ _ h => h))
            go_wp2
            go_ret
            exact ⟨⟨_, rfl, HT.out⟩, K2.out⟩
          · have q : ((s[0].toNat : Int) == ((({ data := #[40, 41, 123, 125, 91, 93, 44, 59, 61, 60, 43, 45, 42, 47, 37, 33] } : ByteArray)[k]'hkB).toNat : Int)) = false := by
              show ((s[0].toNat : Int) == (oneB[k].toNat : Int)) = false
              rw [beq_eq_false_iff_ne]
              intro e
              exact he (UInt8.toNat_inj.1 (by omega))
            have HN : Hid (∀ j, ∀ h : j < oneB.size, j < k + 1 → oneB[j] ≠ s[0]) := fun j hj hjk => by
              rcases Nat.lt_or_ge j k with h3 | h3
              · exact HNO2.out j hj h3
              · obtain rfl : j = k := by omega
                exact he
            clear he
            go_wp2_with fail
            go_quiet (fail)
            go_wp2
            go_roundw
            case rel => exact ⟨k + 1, m + nq, by omega, by go_num, HN.out, by rw [HWX.out, World.drewN_drewN]⟩
            case measure => simp [intOf]; omega
        · obtain rfl : k = 16 := by omega
          have hT : ({ data := #[] } : ByteArray).data.toList = signS l := by
            rw [HSG.out, if_neg]
            intro h
            obtain ⟨j, hj, e⟩ := (one_get _).1 h
            exact HNO2.out j hj hj e
          have HT := Lib.hid hT
          clear hT
          go_wp2
          go_ret
          exact ⟨⟨_, rfl, HT.out⟩, KX.out⟩

end Go.Proofs.YtgelggdgbmldiaaGreatDoor

namespace Go.Proofs.YtgelggdgbmldiaaGreatDoor
open Go.RowKit Go.Shelf
set_option linter.unusedVariables false
set_option linter.unusedSimpArgs false

theorem drop_at {s : ByteArray} {l : List UInt8} (hl : l = s.data.toList) {j : Nat} (h : j < s.size) : l.drop j = s[j] :: l.drop (j + 1) := by
  have h1 := at_byte s j h
  rw [← hl] at h1
  obtain ⟨h2, h3⟩ := List.getElem?_eq_some_iff.1 h1
  rw [List.drop_eq_getElem_cons h2, h3]
theorem rem_two (c d : UInt8) (r : List UInt8) : isRem (c :: d :: r) = (decide (c = 47) && decide (d = 47)) := by
  rw [Bool.eq_iff_iff]
  simp only [Bool.and_eq_true, decide_eq_true_eq]
  constructor
  · intro h
    obtain ⟨t, e⟩ := List.isPrefixOf_iff_prefix.1 h
    simp only [List.cons_append, List.cons.injEq] at e
    exact ⟨e.1.symm, e.2.1.symm⟩
  · rintro ⟨rfl, rfl⟩
    exact List.isPrefixOf_iff_prefix.2 ⟨r, rfl⟩
theorem rem_one (c : UInt8) : isRem [c] = false := by
  cases h : isRem [c] with
  | false => rfl
  | true =>
    have := (List.isPrefixOf_iff_prefix.1 h).length_le
    simp at this
/-- Behind a remark. -/
theorem rem_jump {l : List UInt8} {j : Nat} (h1 : isRem (l.drop j) = true) (hb : ∀ c, l[j]? = some c → blk c = false) :
    lexL (l.drop (j + runL (fun d => !decide (d = 10)) (l.drop j))) (j + runL (fun d => !decide (d = 10)) (l.drop j)) = lexL (l.drop j) j := by
  cases hd : l.drop j with
  | nil => rw [hd] at h1; exact absurd h1 (by decide)
  | cons c r =>
    rw [hd] at h1
    have hc : l[j]? = some c := by
      have : (l.drop j)[0]? = some c := by rw [hd]; rfl
      rw [List.getElem?_drop] at this
      exact this
    have hbc := hb c hc
    rw [← List.drop_drop, hd]
    by_cases he : runL (fun d => !decide (d = 10)) (c :: r) = (c :: r).length
    · rw [lexL_rem_end hbc h1 he, he, List.drop_length, lexL_nil]
    · rw [lexL_rem hbc h1 he]

set_option maxRecDepth 100000 in
set_option maxHeartbeats 8000000 in
theorem rskip_any (s : ByteArray) (hs : s.size ≤ 1000) (i : Nat) (hi : i ≤ s.size) (w : World) : Calls Tryz.prog 20 #[.string s, .int .i64 i] w fun e w' => (∃ j : Nat, e = .returned (.int .i64 (j : Int)) ∧ i ≤ j ∧ j ≤ s.size ∧ lexL (s.data.toList.drop j) j = lexL (s.data.toList.drop i) i ∧
    (j < s.size → ∃ c r, s.data.toList.drop j = c :: r ∧ blk c = false ∧ isRem (c :: r) = false)) ∧ w' = w := by
  obtain ⟨l, hl⟩ : ∃ l : List UInt8, l = s.data.toList := ⟨_, rfl⟩
  have hlen : l.length = s.size := by rw [hl, len_size]
  rw [← hl]
  have HL := Lib.hid hl
  have HLN := Lib.hid hlen
  clear hl hlen
  go_enter Tryz.func20, Tryz.ntmps20
  go_wp2_with fail
  go_loopw [1] (fun s1 wr => ∃ (j : Nat), i ≤ j ∧ j ≤ s.size ∧ s1 = .int .i64 j ∧ lexL (l.drop j) j = lexL (l.drop i) i ∧ wr = w) (fun s1 _ => s.size + 1 - (intOf s1).toNat)
  case atStart => exact ⟨i, Nat.le_refl _, hi, rfl, rfl, rfl⟩
  case round =>
    obtain ⟨j, hij, hj, rfl, hlx, hw⟩ := hrel
    obtain rfl : w = wr := hw.symm
    have HX := Lib.hid hlx
    clear hw hlx
    by_cases hN : j < s.size
    · have hNI : (j : Int) < (s.size : Int) := by omega
      have hNd : decide ((j : Int) < (s.size : Int)) = true := decide_eq_true hNI
      have hj0 : (0 : Int) ≤ (j : Int) := by omega
      have hd := drop_at HL.out hN
      have hat := at_byte s j hN
      rw [← HL.out] at hat
      have HD := Lib.hid hd
      have HAT := Lib.hid hat
      clear hd hat
      by_cases hb : blk s[j] = true
      · have hbn : s[j].toNat = 32 ∨ s[j].toNat = 9 ∨ s[j].toNat = 13 ∨ s[j].toNat = 10 := by
          have hb2 := hb
          unfold blk at hb2
          simp only [Bool.or_eq_true, decide_eq_true_eq] at hb2
          omega
        have HN : Hid (lexL (l.drop (j + 1)) (j + 1) = lexL (l.drop i) i) := by
          rw [← HX.out, HD.out, lexL_blank hb]
          exact Lib.hid rfl
        clear hb
        rcases hbn with hn | hn | hn | hn
        · have n32 : ((s[j].toNat : Int) == 32) = true := by simp; omega
          have HNN := Lib.hid hn
          clear hn
          go_wp2
          go_roundw
          case rel => exact ⟨j + 1, by omega, by omega, by go_num, HN.out, by first | rfl | trivial⟩
          case measure => simp [intOf]; omega
        · have n32 : ((s[j].toNat : Int) == 32) = false := by simp; omega
          have n9 : ((s[j].toNat : Int) == 9) = true := by simp; omega
          have HNN := Lib.hid hn
          clear hn
          go_wp2
          go_roundw
          case rel => exact ⟨j + 1, by omega, by omega, by go_num, HN.out, by first | rfl | trivial⟩
          case measure => simp [intOf]; omega
        · have n32 : ((s[j].toNat : Int) == 32) = false := by simp; omega
          have n9 : ((s[j].toNat : Int) == 9) = false := by simp; omega
          have n13 : ((s[j].toNat : Int) == 13) = true := by simp; omega
          have HNN := Lib.hid hn
          clear hn
          go_wp2
          go_roundw
          case rel => exact ⟨j + 1, by omega, by omega, by go_num, HN.out, by first | rfl | trivial⟩
          case measure => simp [intOf]; omega
        · have n32 : ((s[j].toNat : Int) == 32) = false := by simp; omega
          have n9 : ((s[j].toNat : Int) == 9) = false := by simp; omega
          have n13 : ((s[j].toNat : Int) == 13) = false := by simp; omega
          have n10 : ((s[j].toNat : Int) == 10) = true := by simp; omega
          have HNN := Lib.hid hn
          clear hn
          go_wp2
          go_roundw
          case rel => exact ⟨j + 1, by omega, by omega, by go_num, HN.out, by first | rfl | trivial⟩
          case measure => simp [intOf]; omega
      · have hbf : blk s[j] = false := Bool.eq_false_iff.2 hb
        have hbn : s[j].toNat ≠ 32 ∧ s[j].toNat ≠ 9 ∧ s[j].toNat ≠ 13 ∧ s[j].toNat ≠ 10 := by
          have hb2 := hbf
          unfold blk at hb2
          simp only [Bool.or_eq_false_iff, decide_eq_false_iff_not] at hb2
          omega
        have n32 : ((s[j].toNat : Int) == 32) = false := by simp; omega
        have n9 : ((s[j].toNat : Int) == 9) = false := by simp; omega
        have n13 : ((s[j].toNat : Int) == 13) = false := by simp; omega
        have n10 : ((s[j].toNat : Int) == 10) = false := by simp; omega
        have HB := Lib.hid hbf
        clear hb hbf hbn
        have hret : isRem (l.drop j) = false → (j < s.size → ∃ c r, l.drop j = c :: r ∧ blk c = false ∧ isRem (c :: r) = false) := fun h _ => ⟨s[j], l.drop (j + 1), HD.out, HB.out, by rw [← HD.out]; exact h⟩
        have HRET := Lib.hid hret
        clear hret
        by_cases h47 : s[j].toNat = 47
        · have n47 : ((s[j].toNat : Int) == 47) = true := by simp; omega
          by_cases h2 : j + 1 < s.size
          · have h2I : (j : Int) + 1 < (s.size : Int) := by omega
            have h2d : decide ((j : Int) + 1 < (s.size : Int)) = true := decide_eq_true h2I
            have hj1 : (0 : Int) ≤ (j : Int) + 1 := by omega
            have tj1 : ((j : Int) + 1).toNat = j + 1 := by omega
            have hd2 := drop_at HL.out h2
            have hrm : isRem (l.drop j) = (decide (s[j] = 47) && decide (s[j + 1] = 47)) := by rw [HD.out, hd2, rem_two]
            have e1 : decide (s[j] = 47) = true := decide_eq_true (UInt8.toNat_inj.1 (by rw [h47]; rfl))
            rw [e1, Bool.true_and] at hrm
            by_cases h48 : s[j + 1].toNat = 47
            · have n48 : ((s[j + 1].toNat : Int) == 47) = true := by simp; omega
              rw [decide_eq_true (UInt8.toNat_inj.1 (by rw [h48]; rfl))] at hrm
              have hjump := rem_jump hrm (fun c hc => by rw [HAT.out] at hc; rw [← Option.some.inj hc]; exact HB.out)
              obtain ⟨r, hr⟩ : ∃ r, r = l.drop j := ⟨_, rfl⟩
              have hr2 : 2 ≤ runL (fun d => !decide (d = 10)) r := by rw [hr]; exact rem_size _ hrm
              have hrl : r.length = s.size - j := by rw [hr, List.length_drop, HLN.out]
              rw [HX.out, ← hr] at hjump
              have HJ := Lib.hid hjump
              have HRr := Lib.hid hr
              have HRL := Lib.hid hrl
              have H47 := Lib.hid h47
              have H48 := Lib.hid h48
              clear hrm hd2 e1 hjump hr hrl h47 h48
              go_wp2_with fail
              go_loopw [1] (fun s1 wr => ∃ (t k : Nat), k = j + t ∧ k ≤ s.size ∧ s1 = .int .i64 k ∧ t ≤ runL (fun d => !decide (d = 10)) r ∧ wr = w) (fun s1 _ => s.size + 1 - (intOf s1).toNat)
              case atStart => exact ⟨0, j, rfl, hj, rfl, Nat.zero_le _, rfl⟩
              case round =>
                obtain ⟨t, k, hk, hks, rfl, ht, hw⟩ := hrel
                obtain rfl : w = wr := hw.symm
                clear hw
                obtain ⟨st1, st2⟩ := run_step ht
                have hout : t = runL (fun d => !decide (d = 10)) r → lexL (l.drop k) k = lexL (l.drop i) i := fun h => by rw [hk, h]; exact HJ.out
                by_cases hkN : k < s.size
                · have hkI : (k : Int) < (s.size : Int) := by omega
                  have hkd : decide ((k : Int) < (s.size : Int)) = true := decide_eq_true hkI
                  have hk0 : (0 : Int) ≤ (k : Int) := by omega
                  have hc : r[t]? = some s[k] := by
                    have h1 := at_drop s j t (by omega)
                    rw [HRr.out, HL.out, h1]
                    congr 1
                    congr 1
                    exact hk.symm
                  have h3 := st1 _ hc
                  by_cases h10 : s[k].toNat = 10
                  · have m10 : ((s[k].toNat : Int) != 10) = false := by simp; omega
                    have hte := h3.2 (by simp; exact UInt8.toNat_inj.1 (by rw [h10]; rfl))
                    have HO := Lib.hid (hout hte)
                    have HK : Hid (j < k) := Lib.hid (by omega)
                    have H10 := Lib.hid h10
                    have HKK := Lib.hid hk
                    clear h3 hc st1 st2 hout h10 hte hk
                    go_wp2
                    go_roundw
                    case rel => exact ⟨k, by have := HK.out; omega, hks, rfl, HO.out, by first | rfl | trivial⟩
                    case measure => have := HK.out; simp [intOf]; omega
                  · have m10 : ((s[k].toNat : Int) != 10) = true := by simp; omega
                    have hte := h3.1 (by simp; intro e; rw [e] at h10; exact h10 rfl)
                    have HKK := Lib.hid hk
                    clear h3 hc st1 st2 hout hk
                    go_wp2
                    go_roundw
                    case rel => exact ⟨t + 1, k + 1, by have := HKK.out; omega, by omega, by go_num, hte, by first | rfl | trivial⟩
                    case measure => simp [intOf]; omega
                · have hkd : decide ((k : Int) < (s.size : Int)) = false := decide_eq_false (by omega)
                  have hte := st2 (List.getElem?_eq_none_iff.2 (by rw [HRL.out]; omega))
                  have HO := Lib.hid (hout hte)
                  have HK : Hid (j < k) := Lib.hid (by omega)
                  have HKK := Lib.hid hk
                  clear st1 st2 hout hte hk
                  go_wp2
                  go_roundw
                  case rel => exact ⟨k, by have := HK.out; omega, hks, rfl, HO.out, by first | rfl | trivial⟩
                  case measure => have := HK.out; simp [intOf]; omega
            · have n48 : ((s[j + 1].toNat : Int) == 47) = false := by simp; omega
              rw [decide_eq_false (fun e => h48 (by rw [e]; rfl))] at hrm
              have HR := Lib.hid (HRET.out hrm)
              have H47 := Lib.hid h47
              clear hrm hd2 e1 h47 h48
              go_wp2
              go_ret
              exact ⟨⟨j, rfl, hij, hj, HX.out, HR.out⟩, rfl⟩
          · have h2d : decide ((j : Int) + 1 < (s.size : Int)) = false := decide_eq_false (by omega)
            have hrm : isRem (l.drop j) = false := by
              rw [HD.out, List.drop_of_length_le (by rw [HLN.out]; omega)]
              exact rem_one _
            have HR := Lib.hid (HRET.out hrm)
            have H47 := Lib.hid h47
            clear hrm h47
            go_wp2
            go_ret
            exact ⟨⟨j, rfl, hij, hj, HX.out, HR.out⟩, rfl⟩
        · have n47 : ((s[j].toNat : Int) == 47) = false := by simp; omega
          have hrm : isRem (l.drop j) = false := by
            cases h : isRem (l.drop j) with
            | false => rfl
            | true =>
              rw [HD.out] at h
              exact absurd (by rw [rem_head h]; rfl) h47
          have HR := Lib.hid (HRET.out hrm)
          clear hrm
          go_wp2
          go_ret
          exact ⟨⟨j, rfl, hij, hj, HX.out, HR.out⟩, rfl⟩
    · have hNd : decide ((j : Int) < (s.size : Int)) = false := decide_eq_false (by omega)
      go_wp2
      go_ret
      exact ⟨⟨j, rfl, hij, hj, HX.out, fun h => absurd h hN⟩, rfl⟩

end Go.Proofs.YtgelggdgbmldiaaGreatDoor
