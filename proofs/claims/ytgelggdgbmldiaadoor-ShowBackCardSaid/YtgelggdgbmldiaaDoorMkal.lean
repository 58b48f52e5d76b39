/-
  Layer 1: the contract of number. Written by an AI agent.
  Layer 1: tokens in memory; the contract of what puts one behind the others. Written by an AI agent.
  Layer 1: the contract of All. Written by an AI agent.
  Layer 1: what All tells, case by case; the document's example; short. Written by an AI agent.
  Layer 1: the line of a place. Written by an AI agent.
  Layer 2: the parser in memory. Written by an AI agent.
  Layer 2: the cursor's functions. Written by an AI agent.
  Layer 2: what the cursor looks for. Written by an AI agent.
  Layer 2: a node is put. Written by an AI agent.
  Layer 2: open, shut, calls, Type; what serves the parser's walks. Written by an AI agent.
  Layer 2: rows of numbers that go below a node; a node by its contract. Written by an AI agent.
  Layer 2: inside, variable, ended. Written by an AI agent.
  Layer 2: choice, change. Written by an AI agent.
  Layer 2: function. Written by an AI agent.
  Layer 2: what a lexer's tokens are like. Written by an AI agent.
  Layer 2: a tree in memory. Written by an AI agent.
  Layer 2: All: an error of the lexer. Written by an AI agent.
-/
import Derived.Shelf.Lay
import Derived.Ground.NamesProg
import Derived.Shelf.Strings.Prefix
import Derived.Shelf.Small.Strs
import Derived.Shelf.Strings.Count
import Derived.Shelf.Strconv.ErrVarParseInt
import Derived.WalkMore
import Derived.Scope
import Derived.Shelf.Slices.Turned
import Derived.Lib.SlicesS
import Derived.Deep.RegionHeld
import Derived.Deep.LoopGhost
import Derived.Deep.Light
import Derived.Test.YtgelggdgbmldiaaDoorMkak
namespace Go.Proofs.YtgelggdgbmldiaaDoor
open Go.RowKit Go.Shelf
set_option linter.unusedVariables false
set_option linter.unusedSimpArgs false
def numA (a : Nat) (l : List UInt8) : Nat := l.foldl (fun a c => a * 10 + (c.toNat - 48)) a
theorem numA_le (a : Nat) (l : List UInt8) : a ≤ numA a l := by
  induction l generalizing a with
  | nil => exact Nat.le_refl _
  | cons c r ih =>
    have h := ih (a * 10 + (c.toNat - 48))
    show a ≤ numA (a * 10 + (c.toNat - 48)) r
    omega
theorem numA_cons (a : Nat) (c : UInt8) (r : List UInt8) : numA a (c :: r) = numA (a * 10 + (c.toNat - 48)) r := by unfold numA; rw [List.foldl_cons]
theorem parseM_ok (l : List UInt8) (hd : ∀ c ∈ l, dig c = true) (M : Nat) (hM : M = 18446744073709551615) (a : Nat) (h : numA a l ≤ M) : Lib.parseUintM M a l = .ok (numA a l) := by
  induction l generalizing a with
  | nil => unfold Lib.parseUintM; unfold numA; rw [List.foldl_nil]
  | cons c r ih =>
    have h1 := hd c (by simp)
    unfold dig at h1
    simp only [Bool.and_eq_true, decide_eq_true_eq] at h1
    rw [numA_cons] at h ⊢
    have h2 := numA_le (a * 10 + (c.toNat - 48)) r
    have hr := ih (fun d hd2 => hd d (by simp [hd2])) _ h
    have h3 : ¬ 1844674407370955162 ≤ a := fun h5 => by omega
    have h4 : ¬ M < a * 10 + (c.toNat - 48) := fun h5 => by omega
    unfold Lib.parseUintM
    rw [if_pos h1, if_neg h3, if_neg h4]
    exact hr
theorem parseM_range (l : List UInt8) (hd : ∀ c ∈ l, dig c = true) (M : Nat) (hM : M = 18446744073709551615) (a : Nat) (ha : a ≤ M) (h : M < numA a l) : Lib.parseUintM M a l = .range := by
  induction l generalizing a with
  | nil => exact absurd h (by show ¬ M < a; omega)
  | cons c r ih =>
    have h1 := hd c (by simp)
    unfold dig at h1
    simp only [Bool.and_eq_true, decide_eq_true_eq] at h1
    rw [numA_cons] at h
    unfold Lib.parseUintM
    rw [if_pos h1]
    by_cases h2 : 1844674407370955162 ≤ a
    · rw [if_pos h2]
    · rw [if_neg h2]
      by_cases h3 : M < a * 10 + (c.toNat - 48)
      · rw [if_pos h3]
      · rw [if_neg h3]
        exact ih (fun d hd2 => hd d (by simp [hd2])) _ (by omega) h
theorem parse_digits (l : List UInt8) (hne : l ≠ []) (hd : ∀ c ∈ l, dig c = true) : Lib.parseIntB 64 l = if numV l ≤ 9223372036854775807 then .ok ((numV l : Nat) : Int) else .range := by
  obtain ⟨c, r, rfl⟩ := List.exists_cons_of_ne_nil hne
  have h1 := hd c (by simp)
  unfold dig at h1
  simp only [Bool.and_eq_true, decide_eq_true_eq] at h1
  have e1 : ¬ c.toNat = 45 := by omega
  have e2 : ¬ (c.toNat = 43 ∨ c.toNat = 45) := by omega
  unfold Lib.parseIntB
  simp only [if_neg e2]
  unfold Lib.parseUintB
  rw [if_neg hne]
  obtain ⟨M, hM⟩ : ∃ M : Nat, M = 2 ^ 64 - 1 := ⟨_, rfl⟩
  have hM2 : M = 18446744073709551615 := by rw [hM]
  rw [← hM]
  have hv : numV (c :: r) = numA 0 (c :: r) := rfl
  by_cases h : numA 0 (c :: r) ≤ M
  · rw [parseM_ok _ hd M hM2 0 h]
    rw [hv]
    by_cases h2 : numA 0 (c :: r) ≤ 9223372036854775807
    · rw [if_pos h2]
      simp only [e1, not_false_eq_true, true_and, false_and, if_false]
      rw [if_neg (by omega)]
    · rw [if_neg h2]
      simp only [e1, not_false_eq_true, true_and, false_and, if_false]
      rw [if_pos (by omega)]
  · rw [parseM_range _ hd M hM2 0 (by omega) (by omega)]
    rw [hv, if_neg (by omega)]
theorem keeps_bytes (w : World) (t5 : TypeId) (t : ByteArray) (w' : World) (h : w' = w ∨ ∃ t, w' = Lib.bytesWorld w t5 t) : Keeps (fun _ => False) w w' := by
  rcases h with rfl | ⟨t, rfl⟩
  · exact Keeps.refl _ _
  · exact Keeps.ofBelow (Lib.bytesWorld_below _ _ _)
end Go.Proofs.YtgelggdgbmldiaaDoor

namespace Go.Proofs.YtgelggdgbmldiaaDoor
open Go.RowKit Go.Shelf
set_option linter.unusedVariables false
set_option linter.unusedSimpArgs false
theorem info33 : (Tryd.prog.info? 54).map (fun i => (i.zero, i.size, i.bytes)) = some (some (.agg #[.int .i64 0, .string ⟨#[]⟩, .int .i64 0]), 3, 32) := by kernel_rfl
theorem info_parts {P : Program} {t : TypeId} {z : Value} {sz by' : Nat} (h : (P.info? t).map (fun i => (i.zero, i.size, i.bytes)) = some (some z, sz, by')) : ∃ i, P.info? t = some i ∧ i.zero = some z ∧ i.size = sz ∧ i.bytes = by' := by
  cases hi : P.info? t with
  | none => rw [hi] at h; cases h
  | some i =>
    rw [hi] at h
    have h2 := Option.some.inj h
    exact ⟨i, rfl, congrArg (·.1) h2, congrArg (·.2.1) h2, congrArg (·.2.2) h2⟩
def Tok.cells (t : Tok) : List Value := [.int .i64 (t.k : Int), .string (ofL t.x), .int .i64 (t.p : Int)]
def flatT (L : List Tok) : List Value := L.flatMap Tok.cells
theorem flatT_cons (a : Tok) (L : List Tok) : flatT (a :: L) = a.cells ++ flatT L := by simp [flatT]
theorem flatT_append (L M : List Tok) : flatT (L ++ M) = flatT L ++ flatT M := by simp [flatT]
theorem flatT_one (L : List Tok) : ∀ u ∈ flatT L, u.oneCell' = true := by
  intro u hu
  simp only [flatT, List.mem_flatMap] at hu
  obtain ⟨a, _, hu⟩ := hu
  simp only [Tok.cells, List.mem_cons, List.not_mem_nil, or_false] at hu
  rcases hu with rfl | rfl | rfl <;> rfl
theorem flatT_at (L : List Tok) (i : Nat) (h : i < L.length) : (flatT L)[i * 3]? = some (.int .i64 ((L.getD i default).k : Int)) ∧ (flatT L)[i * 3 + 1]? = some (.string (ofL (L.getD i default).x)) ∧ (flatT L)[i * 3 + 2]? = some (.int .i64 ((L.getD i default).p : Int)) := by
  induction L generalizing i with
  | nil => exact absurd h (Nat.not_lt_zero _)
  | cons a L ih =>
    rw [flatT_cons]
    cases i with
    | zero => exact ⟨rfl, rfl, rfl⟩
    | succ i =>
      have h2 := ih i (by simpa using h)
      rw [show (i + 1) * 3 = i * 3 + 1 + 1 + 1 by omega]
      exact h2
theorem own_of {w : World} {v : Value} {n : Nat} {xs : List Value} (h : w.ownsRow 0 54 3 v n xs) {w' : World} (hk : Keeps (fun _ => False) w w') : w'.ownsRow 0 54 3 v n xs := ownsRow_keep h fun k hk2 => hk.block k (own_ltk h hk2) (fun h => h)
theorem Tok.one (x : Tok) : ∀ u ∈ x.cells, u.oneCell' = true := by
  intro u hu
  simp only [Tok.cells, List.mem_cons, List.not_mem_nil, or_false] at hu
  rcases hu with rfl | rfl | rfl <;> rfl
theorem news3 {w : World} {s : Nat} (x : Tok) (t : TypeId) (hs : w.heap.size = s) : ∀ j u, x.cells[j]? = some u → (w.alloc (.cells x.cells.toArray t)).cell? ((⟨s, 0, none⟩ : Addr).add j) = some u := by
  intro j u h
  subst hs
  have e : (⟨w.heap.size, 0, none⟩ : Addr).add j = ⟨w.heap.size, j, none⟩ := by unfold Addr.add; split <;> simp_all
  rw [e]
  have hj : j < 3 := (List.getElem?_eq_some_iff.1 h).1
  match j, hj with
  | 0, _ => simpa [Tok.cells] using h
  | 1, _ => simpa [Tok.cells] using h
  | 2, _ => simpa [Tok.cells] using h
theorem cell_other (w : World) {p q : Nat} (i j : Nat) (v : Value) (h : i ≠ j ∨ p ≠ q) : (w.setCell ⟨p, i, none⟩ v).cell? ⟨q, j, none⟩ = w.cell? ⟨q, j, none⟩ := World.cell?_setCell_other w _ _ _ (by simp only [ne_eq, Addr.mk.injEq, and_true]; omega)
theorem cell_same (w : World) (p i : Nat) (v x : Value) (h : w.cell? ⟨p, i, none⟩ = some x) : (w.setCell ⟨p, i, none⟩ v).cell? ⟨p, i, none⟩ = some v := World.cell?_setCell_same' w _ _ (by rw [h]; rfl)
section
variable {w w' : World} {B po pa p : Nat} {v : Value} {L : List Tok}
end
end Go.Proofs.YtgelggdgbmldiaaDoor

namespace Go.Proofs.YtgelggdgbmldiaaDoor
open Go.RowKit Go.Shelf
set_option linter.unusedVariables false
set_option linter.unusedSimpArgs false
/-- New tokens. -/
def NewT (L : List Tok) (w : World) (A : Option Addr) (c : Nat) (w' : World) : Prop :=
  w'.ownsRow 0 54 3 (.slice A L.length c) L.length (flatT L) ∧ (∀ g, (Value.slice A L.length c).ownBlock = some g → w.heap.size ≤ g)
/-- What All tells. -/
def AllE (l : List UInt8) (w : World) (e : Ending) (w' : World) : Prop :=
  (if 600 < l.length then e = .returned (.tuple #[.slice none 0 0, .int .i64 0, .int .i64 4])
   else match (lexL l 0).2 with
    | none => ∃ A c, e = .returned (.tuple #[.slice A (lexL l 0).1.length c, .int .i64 0, .int .i64 0]) ∧ NewT (lexL l 0).1 w A c w'
    | some (q, er) => e = .returned (.tuple #[.slice none 0 0, .int .i64 (q : Int), .int .i64 (er : Int)])) ∧ Keeps (fun _ => False) w w'
theorem kback {B : Nat} {w w' : World} (h : Keeps (fun b => B ≤ b) w w') (hB : B = w.heap.size) : Keeps (fun _ => False) w w' :=
  ⟨h.os, h.tape, h.output, h.size, fun k hk hn => h.block k hk (fun h2 => by omega)⟩
theorem tokens_le (l : List UInt8) (p : Nat) : (lexL l p).1.length ≤ l.length + 1 := by
  refine lexL_ind (P := fun l p => (lexL l p).1.length ≤ l.length + 1) ?_ ?_ ?_ ?_ ?_ ?_ l p
  · intro p; exact Nat.le_refl _
  · intro c r p h ih; rw [lexL_blank h, List.length_cons]; omega
  · intro c r p h h1 h2; rw [lexL_rem_end h h1 h2]; simp
  · intro c r p h h1 h2 ih; rw [lexL_rem h h1 h2]; rw [List.length_drop] at ih; omega
  · intro c r p h h1 h2; rw [lexL_bad h h1 h2]; simp
  · intro c r p h h1 h2 ih
    have := first_size (c :: r) (by simp) h2
    rw [lexL_tok h h1 h2]
    rw [List.length_drop] at ih
    simp only [List.length_cons] at ih this ⊢
    omega
end Go.Proofs.YtgelggdgbmldiaaDoor

namespace Go.Proofs.YtgelggdgbmldiaaDoor
open Go.RowKit Go.Shelf
set_option linter.unusedVariables false
set_option linter.unusedSimpArgs false
/-- What lies at a slice's cells: tokens. -/
def RdT (w : World) (A : Option Addr) (L : List Tok) : Prop := 0 < L.length → ∃ b off, A = some ⟨b, off, none⟩ ∧ ∀ k, k < L.length →
  w.cell? ⟨b, off + k * 3, none⟩ = some (.int .i64 ((L.getD k default).k : Int)) ∧ w.cell? ⟨b, off + k * 3 + 1, none⟩ = some (.string (ofL (L.getD k default).x)) ∧ w.cell? ⟨b, off + k * 3 + 2, none⟩ = some (.int .i64 ((L.getD k default).p : Int))
theorem RdT.keep {w w' : World} {A : Option Addr} {L : List Tok} (h : RdT w A L) (hk : Keeps (fun _ => False) w w') : RdT w' A L := fun h0 => by
  obtain ⟨b, off, e, hc⟩ := h h0
  have hb : b < w.heap.size := cell_ltk (hc 0 h0).1
  refine ⟨b, off, e, fun k hk2 => ?_⟩
  obtain ⟨c0, c1, c2⟩ := hc k hk2
  exact ⟨(hk.cell hb (fun h => h)).trans c0, (hk.cell hb (fun h => h)).trans c1, (hk.cell hb (fun h => h)).trans c2⟩
theorem own_rdT {w : World} {A : Option Addr} {c n : Nat} {L : List Tok} (h : w.ownsRow 0 54 3 (.slice A n c) n (flatT L)) (hn : n = L.length) : RdT w A L := fun h0 => by
  rcases h.2 with ⟨_, h1⟩ | ⟨g, cap, cur, e1, _⟩
  · omega
  · simp only [Value.slice.injEq] at e1
    obtain ⟨rfl, _, rfl⟩ := e1
    refine ⟨g, 0, rfl, fun k hk => ?_⟩
    obtain ⟨f0, f1, f2⟩ := flatT_at L k hk
    rw [Nat.zero_add]
    exact ⟨(h.cellAt _ (by omega)).trans f0, (h.cellAt _ (by omega)).trans f1, (h.cellAt _ (by omega)).trans f2⟩
end Go.Proofs.YtgelggdgbmldiaaDoor

namespace Go.Proofs.YtgelggdgbmldiaaDoor
open Go.RowKit Go.Shelf
set_option linter.unusedVariables false
set_option linter.unusedSimpArgs false
theorem empty_iff (s : ByteArray) : (s.toList == ([] : List UInt8)) = decide (s.size = 0) := by
  rw [word_beq, Bool.eq_iff_iff]
  simp only [decide_eq_true_eq]
  rw [← len_size, List.length_eq_zero_iff]
theorem ext_one (s : ByteArray) (k : Nat) (h : k < s.size) : (s.extract k (k + 1)).data.toList = [s[k]] := by
  have h2 := at_byte s k h
  obtain ⟨h3, h4⟩ := List.getElem?_eq_some_iff.1 h2
  have : (s.extract k (k + 1)).data.toList = (s.data.toList.drop k).take 1 := by simp
  rw [this, List.drop_eq_getElem_cons h3, List.take_succ_cons, h4]
  rfl
end Go.Proofs.YtgelggdgbmldiaaDoor

namespace Go.Proofs.YtgelggdgbmldiaaDoor
open Go Go.RowKit Go.Shelf
set_option linter.unusedVariables false
set_option linter.unusedSimpArgs false
/-- A node, and where the row of those below it lies. -/
structure NM where
  d : Nd
  a : Option Addr
  c : Nat
def NM.cells (x : NM) : List Value := [.int .i64 x.d.k, .int .i64 x.d.ln, .int .i64 x.d.n, .string (ofL x.d.s), .slice x.a x.d.l.length x.c]
def flatN (L : List NM) : List Value := L.flatMap NM.cells
theorem flatN_cons (a : NM) (L : List NM) : flatN (a :: L) = a.cells ++ flatN L := by simp [flatN]
theorem flatN_append (L M : List NM) : flatN (L ++ M) = flatN L ++ flatN M := by simp [flatN]
theorem flatN_one (x : NM) : flatN [x] = x.cells := by simp [flatN]
theorem NM.one (x : NM) : ∀ u ∈ x.cells, u.oneCell' = true := by
  intro u hu
  simp only [NM.cells, List.mem_cons, List.not_mem_nil, or_false] at hu
  rcases hu with rfl | rfl | rfl | rfl | rfl <;> rfl
/-- A row of numbers, where it lies. -/
def RdI (w : World) (a : Option Addr) (l : List Int) : Prop := 0 < l.length → ∃ b off, a = some ⟨b, off, none⟩ ∧ ∀ k, k < l.length → w.cell? ⟨b, off + k, none⟩ = some (.int .i64 (l.getD k 0))
theorem RdI.keep {w w' : World} {R : Nat → Prop} {a : Option Addr} {l : List Int} (h : RdI w a l) (hk : Keeps R w w') (hr : 0 < l.length → ∀ b off, a = some ⟨b, off, none⟩ → ¬ R b) : RdI w' a l := fun h0 => by
  obtain ⟨b, off, e, hc⟩ := h h0
  have hb : b < w.heap.size := cell_ltk (hc 0 h0)
  exact ⟨b, off, e, fun k hk2 => (hk.cell hb (hr h0 b off e)).trans (hc k hk2)⟩
theorem RdI.lt {w : World} {a : Option Addr} {l : List Int} (h : RdI w a l) (h0 : 0 < l.length) {b off : Nat} (e : a = some ⟨b, off, none⟩) : b < w.heap.size := by
  obtain ⟨b', off', e', hc⟩ := h h0
  rw [e] at e'
  cases e'
  exact cell_ltk (hc 0 h0)
theorem RdT.keepR {w w' : World} {R : Nat → Prop} {A : Option Addr} {L : List Tok} (h : RdT w A L) (hk : Keeps R w w') (hr : 0 < L.length → ∀ b off, A = some ⟨b, off, none⟩ → ¬ R b) : RdT w' A L := fun h0 => by
  obtain ⟨b, off, e, hc⟩ := h h0
  have hb : b < w.heap.size := cell_ltk (hc 0 h0).1
  have hn := hr h0 b off e
  refine ⟨b, off, e, fun k hk2 => ?_⟩
  obtain ⟨c0, c1, c2⟩ := hc k hk2
  exact ⟨(hk.cell hb hn).trans c0, (hk.cell hb hn).trans c1, (hk.cell hb hn).trans c2⟩
/-- Tokens as a lexer tells them: the last one is the end, and no other. -/
structure TokOK (T : List Tok) : Prop where
  ne : 0 < T.length
  le : T.length ≤ 1000
  last : (T.getD (T.length - 1) default).k = 0
  inner : ∀ i, i < T.length - 1 → (T.getD i default).k ≠ 0
  num : ∀ i, i < T.length → (T.getD i default).k = 1 → (T.getD i default).x ≠ [] ∧ (∀ c ∈ (T.getD i default).x, dig c = true) ∧ numV (T.getD i default).x ≤ 9223372036854775807
  long : ∀ i, i < T.length → (T.getD i default).x.length ≤ 1000
  pos : ∀ i, i < T.length → (T.getD i default).p ≤ 1000
/-- What a call may do: it writes in R alone, and what is its own behind it was so ahead of it, or is new. -/
def Fr (R : Nat → Prop) (w : World) (R' : Nat → Prop) (w' : World) : Prop := Keeps R w w' ∧ ∀ b, b < w.heap.size → R' b → R b
theorem Fr.refl (R : Nat → Prop) (w : World) : Fr R w R w := ⟨Keeps.refl _ _, fun _ _ h => h⟩
theorem Fr.trans {R R1 R2 : Nat → Prop} {w w1 w2 : World} (h : Fr R w R1 w1) (k : Fr R1 w1 R2 w2) : Fr R w R2 w2 :=
  ⟨h.1.trans k.1 (fun x hx hr => h.2 x hx hr), fun b hb hr => h.2 b hb (k.2 b (Nat.lt_of_lt_of_le hb h.1.size) hr)⟩
theorem Fr.keeps {R R1 : Nat → Prop} {w w1 w2 : World} (h : Fr R w R1 w1) (k : Keeps (fun _ => False) w1 w2) : Fr R w R1 w2 :=
  ⟨h.1.trans k (fun _ _ h => h.elim), h.2⟩
theorem Fr.local {R R1 : Nat → Prop} {w w1 : World} (h : Fr R w R1 w1) {X : Nat} (hX : w.heap.size ≤ X) (k : Nat) (u : Value) : Fr R w R1 (w1.setCell ⟨X, k, none⟩ u) :=
  ⟨h.1.setCell (p := ⟨X, k, none⟩) (fun hb => absurd (show X < w.heap.size from hb) (by omega)) u, h.2⟩
/-- A block of the call's own. -/
structure Loc (w : World) (R : Nat → Prop) (X : Nat) (vs : List Value) : Prop where
  lt : X < w.heap.size
  out : ¬ R X
  cells : ∀ k u, vs[k]? = some u → w.cell? ⟨X, k, none⟩ = some u
  fz : ∀ k, w.frozen? ⟨X, k, none⟩ = false
theorem Loc.keep {w w' : World} {R R' : Nat → Prop} {X : Nat} {vs : List Value} (h : Loc w R X vs) (f : Fr R w R' w') : Loc w' R' X vs :=
  ⟨Nat.lt_of_lt_of_le h.lt f.1.size, fun hr => h.out (f.2 X h.lt hr), fun k u hu => (f.1.cell h.lt h.out).trans (h.cells k u hu), fun k => (f.1.frozen h.lt h.out).trans (h.fz k)⟩
theorem Loc.keeps {w w' : World} {R : Nat → Prop} {X : Nat} {vs : List Value} (h : Loc w R X vs) (f : Keeps (fun _ => False) w w') : Loc w' R X vs :=
  h.keep ((Fr.refl R w).keeps f)
theorem Loc.new {w : World} {R : Nat → Prop} (hR : ¬ R w.heap.size) (vs : List Value) (t : TypeId) : Loc (w.alloc (.cells vs.toArray t)) R w.heap.size vs :=
  ⟨by simp, hR, fun k u hu => by rw [World.cell?_alloc_mark]; simpa using hu, fun k => by rw [World.frozen?_alloc_mark]; simp⟩
theorem Keeps.one (w : World) (o : Obj) : Keeps (fun _ => False) w (w.alloc o) := (Keeps.refl _ _).alloc _
end Go.Proofs.YtgelggdgbmldiaaDoor

namespace Go.Proofs.YtgelggdgbmldiaaDoor
open Go Go.RowKit Go.Shelf
set_option linter.unusedVariables false
set_option linter.unusedSimpArgs false
theorem results_cell1 {fn : Func} {p : Tmp} {ty : TypeId} (h : fn.results = #[.cell p ty]) (tmps : Array Value) (P : Program) (w : World) :
    (results fn tmps).run P w = ((asAddr (tmps.getD p undef)).run P w).andThen fun a w₁ => (loadVar ty a).run P w₁ := by
  simp only [results, h]
  simp [Sem.run_bind, Result.andThen]
end Go.Proofs.YtgelggdgbmldiaaDoor

namespace Go.Proofs.YtgelggdgbmldiaaDoor
open Go Go.RowKit Go.Shelf
set_option linter.unusedVariables false
set_option linter.unusedSimpArgs false

shelf_lay Lays.n110 Nm 110 at Tryd as laysContains
theorem list_beq (a b : ByteArray) : decide (a = b) = decide (a.data.toList = b.data.toList) := by
  by_cases h : a = b
  · rw [h]; simp
  · rw [decide_eq_false h, decide_eq_false (fun e => h (bytes_ext e))]
end Go.Proofs.YtgelggdgbmldiaaDoor

namespace Go.Proofs.YtgelggdgbmldiaaDoor
open Go Go.RowKit Go.Shelf
set_option linter.unusedVariables false
set_option linter.unusedSimpArgs false
theorem info_node : (Tryd.prog.info? 33).map (fun i => (i.zero, i.size, i.bytes)) = some (some (.agg #[.int .i64 0, .int .i64 0, .int .i64 0, .string ⟨#[]⟩, .slice none 0 0]), 5, 64) := by kernel_rfl
theorem news5 {w : World} (x : NM) (t : TypeId) : ∀ j u, x.cells[j]? = some u → (w.alloc (.cells x.cells.toArray t)).cell? ((⟨w.heap.size, 0, none⟩ : Addr).add j) = some u := by
  intro j u h
  have e : (⟨w.heap.size, 0, none⟩ : Addr).add j = ⟨w.heap.size, j, none⟩ := by unfold Addr.add; split <;> simp_all
  rw [e, World.cell?_alloc_mark]
  simpa using h
end Go.Proofs.YtgelggdgbmldiaaDoor

namespace Go.Proofs.YtgelggdgbmldiaaDoor
open Go Go.RowKit Go.Shelf
set_option linter.unusedVariables false
set_option linter.unusedSimpArgs false
theorem ask_out {α β : Type} {f : PS → α} {g : α → PM β} {s : PS} {r : β × PS} (h : (ask f >>= g) s = some r) : ∃ a, a = f s ∧ g a s = some r := ⟨f s, rfl, h⟩
theorem mod_out {β : Type} {f : PS → PS} {g : Unit → PM β} {s : PS} {r : β × PS} (h : (mod f >>= g) s = some r) : ∃ s1, s1 = f s ∧ g () s1 = some r := ⟨f s, rfl, h⟩
theorem node_out {n : Nd} {l : List Int} {s s' : PS} {r : Int} (h : nodeM n l s = some (r, s')) : s.nd.length < 100000 ∧ r = (s.nd.length : Int) ∧ s' = { s with nd := s.nd ++ [{ n with l := l }] } := by
  unfold nodeM at h
  split at h
  · rename_i hl
    injection h with h
    injection h with h1 h2
    exact ⟨hl, h1.symm, h2.symm⟩
  · cases h
theorem deep_out {d : Int} {s s' : PS} {u : Unit} (h : deepS d s = some (u, s')) : (-1000000 < s.dp ∧ s.dp < 1000000) ∧ s' = { s with dp := s.dp + d } := by
  unfold deepS at h
  split at h
  · rename_i hl
    injection h with h
    injection h with h1 h2
    exact ⟨hl, h2.symm⟩
  · cases h
theorem Loc.set {w : World} {R : Nat → Prop} {X : Nat} {vs : List Value} (h : Loc w R X vs) (j : Nat) (u : Value) (hj : j < vs.length) : Loc (w.setCell ⟨X, j, none⟩ u) R X (vs.set j u) := by
  refine ⟨by simpa using h.lt, h.out, fun k v hv => ?_, fun k => (World.frozen?_setCell w _ _ _).trans (h.fz k)⟩
  by_cases e : j = k
  · subst e
    rw [List.getElem?_set_self hj] at hv
    cases hv
    exact cell_same w X j u _ (h.cells j vs[j] (List.getElem?_eq_getElem hj))
  · rw [List.getElem?_set_ne e] at hv
    exact (cell_other w j k u (.inl e)).trans (h.cells k v hv)
end Go.Proofs.YtgelggdgbmldiaaDoor

namespace Go.Proofs.YtgelggdgbmldiaaDoor
open Go Go.RowKit Go.Shelf
set_option linter.unusedVariables false
set_option linter.unusedSimpArgs false
def valI (l : List Int) : List Value := l.map (fun x => .int .i64 x)
theorem valI_append (l m : List Int) : valI (l ++ m) = valI l ++ valI m := by simp [valI]
theorem valI_at (l : List Int) (k : Nat) (h : k < l.length) : (valI l)[k]? = some (.int .i64 (l.getD k 0)) := by
  unfold valI
  rw [List.getElem?_map, List.getElem?_eq_getElem h]
  simp [List.getD, List.getElem?_eq_getElem h]
theorem valI_one (l : List Int) : ∀ u ∈ valI l, u.oneCell' = true := by
  intro u hu
  obtain ⟨x, _, rfl⟩ := List.mem_map.1 hu
  rfl
theorem info_int : (Tryd.prog.info? 3).map (fun i => (i.zero, i.size, i.bytes)) = some (some (.int .i64 0), 1, 8) := by kernel_rfl
theorem own_rdI {w : World} {A : Option Addr} {n c : Nat} {l : List Int} (h : w.ownsRow 0 3 1 (.slice A n c) n (valI l)) (hn : n = l.length) : RdI w A l := fun h0 => by
  rcases h.2 with ⟨e1, h1⟩ | ⟨g, cap, cur, e1, _⟩
  · omega
  · have e2 : A = some ⟨g, 0, none⟩ := by injection e1
    subst e2
    refine ⟨g, 0, rfl, fun k hk => ?_⟩
    rw [Nat.zero_add]
    exact (h.cellAt k (by omega)).trans (valI_at l k hk)
theorem newsI {w : World} (z : Int) (t : TypeId) : ∀ j u, (valI [z])[j]? = some u → (w.alloc (.cells #[.int .i64 z] t)).cell? ((⟨w.heap.size, 0, none⟩ : Addr).add j) = some u := by
  intro j u h
  have e : (⟨w.heap.size, 0, none⟩ : Addr).add j = ⟨w.heap.size, j, none⟩ := by unfold Addr.add; split <;> simp_all
  rw [e, World.cell?_alloc_mark]
  match j, h with
  | 0, h => simpa [valI] using h
/-- What goes below a node: a row that is not the parser's. -/
def NewRow (P : Nat) (R : Nat → Prop) (a : Option Addr) (l : List Int) : Prop := 0 < l.length → ∃ X off, a = some ⟨X, off, none⟩ ∧ ¬ R X ∧ P < X
section
variable {P : Nat} {src : ByteArray} {T : List Tok} {f : Nat} {mm : Nd → List Int → PM Int} {R : Nat → Prop} {s s' : PS} {w : World} {r : Int}
end
theorem own_keep {w w' : World} {R R' : Nat → Prop} {v : Value} {n : Nat} {xs : List Value} (h : w.ownsRow 0 3 1 v n xs) (f : Fr R w R' w') {B : Nat} (hb : ∀ g, v.ownBlock = some g → ¬ R g ∧ B ≤ g) :
    w'.ownsRow 0 3 1 v n xs ∧ ∀ g, v.ownBlock = some g → ¬ R' g ∧ B ≤ g :=
  ⟨ownsRow_keep h (fun g hg => f.1.block g (own_ltk h hg) (hb g hg).1), fun g hg => ⟨fun hr => (hb g hg).1 (f.2 g (own_ltk h hg) hr), (hb g hg).2⟩⟩
theorem Loc.keepsR {w w' : World} {R : Nat → Prop} {X : Nat} {vs : List Value} (h : Loc w R X vs) {S : Nat → Prop} (k : Keeps S w w') (hX : ¬ S X) : Loc w' R X vs :=
  ⟨Nat.lt_of_lt_of_le h.lt k.size, h.out, fun j u hu => (k.cell h.lt hX).trans (h.cells j u hu), fun j => (k.frozen h.lt hX).trans (h.fz j)⟩
end Go.Proofs.YtgelggdgbmldiaaDoor

namespace Go.Proofs.YtgelggdgbmldiaaDoor
open Go Go.RowKit Go.Shelf
set_option linter.unusedVariables false
set_option linter.unusedSimpArgs false
theorem pure_end {α : Type} {a r : α} {s s' : PS} (h : (pure a : PM α) s = some (r, s')) : r = a ∧ s' = s := by
  have := pure_out h
  injection this with h1 h2
  exact ⟨h1, h2⟩
end Go.Proofs.YtgelggdgbmldiaaDoor

namespace Go.Proofs.YtgelggdgbmldiaaDoor
open Go Go.RowKit Go.Shelf
set_option linter.unusedVariables false
set_option linter.unusedSimpArgs false
theorem row_app {w : World} {v : Value} {n : Nat} {l : List Int} {a : Int} (h : w.ownsRow 0 3 1 v n (valI l ++ valI [a])) : w.ownsRow 0 3 1 v n (valI (l ++ [a])) := by rw [valI_append]; exact h
theorem row_out {v v5 : Value} {X B : Nat} (b5 : v5.ownBlock = v.ownBlock ∨ v5.ownBlock = some B) (hl : X < B) (h : ∀ g, v.ownBlock = some g → ¬ X = g) : ∀ g, v5.ownBlock = some g → ¬ X = g := fun g hg e => by
  rcases b5 with e5 | e5
  · exact h g (by rw [← e5]; exact hg) e
  · rw [e5] at hg
    cases hg
    exact absurd hl (by omega)
end Go.Proofs.YtgelggdgbmldiaaDoor

namespace Go.Proofs.YtgelggdgbmldiaaDoor
open Go Go.RowKit Go.Shelf
set_option linter.unusedVariables false
set_option linter.unusedSimpArgs false
def PmV (p : List UInt8 × Int) : List Value := [.string (ofL p.1), .int .i64 p.2]
def flatP (l : List (List UInt8 × Int)) : List Value := l.flatMap PmV
theorem flatP_more (l : List (List UInt8 × Int)) (p : List UInt8 × Int) : flatP (l ++ [p]) = flatP l ++ PmV p := by simp [flatP]
theorem PmV_one (p : List UInt8 × Int) : ∀ u ∈ PmV p, u.oneCell' = true := by
  intro u hu
  simp only [PmV, List.mem_cons, List.not_mem_nil, or_false] at hu
  rcases hu with rfl | rfl <;> rfl
theorem info_param : (Tryd.prog.info? 59).map (fun i => (i.zero, i.size, i.bytes)) = some (some (.agg #[.string ⟨#[]⟩, .int .i64 0]), 2, 24) := by kernel_rfl
theorem newsG {w : World} (vs : List Value) (t : TypeId) : ∀ j u, vs[j]? = some u → (w.alloc (.cells vs.toArray t)).cell? ((⟨w.heap.size, 0, none⟩ : Addr).add j) = some u := by
  intro j u h
  have e : (⟨w.heap.size, 0, none⟩ : Addr).add j = ⟨w.heap.size, j, none⟩ := by unfold Addr.add; split <;> simp_all
  rw [e, World.cell?_alloc_mark]
  simpa using h
theorem own_keepG {w w' : World} {R R' : Nat → Prop} {e : TypeId} {size : Nat} {v : Value} {n : Nat} {xs : List Value} (h : w.ownsRow 0 e size v n xs) (f : Fr R w R' w') {B : Nat} (hb : ∀ g, v.ownBlock = some g → ¬ R g ∧ B ≤ g) :
    w'.ownsRow 0 e size v n xs ∧ ∀ g, v.ownBlock = some g → ¬ R' g ∧ B ≤ g :=
  ⟨ownsRow_keep h (fun g hg => f.1.block g (own_ltk h hg) (hb g hg).1), fun g hg => ⟨fun hr => (hb g hg).1 (f.2 g (own_ltk h hg) hr), (hb g hg).2⟩⟩
theorem own_len {w : World} {e : TypeId} {k : Nat} {A : Option Addr} {n m c : Nat} {xs : List Value} (h : n = m) (ho : w.ownsRow 0 e k (.slice A n c) n xs) : w.ownsRow 0 e k (.slice A m c) m xs := h ▸ ho
theorem own_blk (A : Option Addr) (n m c : Nat) : (Value.slice A n c).ownBlock = (Value.slice A m c).ownBlock := by cases A <;> rfl
end Go.Proofs.YtgelggdgbmldiaaDoor

namespace Go.Proofs.YtgelggdgbmldiaaDoor
open Go.RowKit Go.Shelf
set_option linter.unusedVariables false
set_option linter.unusedSimpArgs false
/-- A token that is not the end. -/
def TokIn (m : Nat) (t : Tok) : Prop := t.k ≠ 0 ∧ (t.k = 1 → t.x ≠ [] ∧ (∀ c ∈ t.x, dig c = true) ∧ numV t.x ≤ 9223372036854775807) ∧ t.x.length ≤ m ∧ t.p ≤ m
def TokL (m : Nat) (T : List Tok) : Prop := ∃ I e, T = I ++ [e] ∧ e.k = 0 ∧ e.x = [] ∧ e.p ≤ m ∧ ∀ t ∈ I, TokIn m t
theorem first_tok (l : List UInt8) (h : (firstL l).2.2 = 0) (hl : l ≠ []) : (firstL l).1 ≠ 0 ∧ ((firstL l).1 = 1 → saidL (firstL l).1 (l.take (firstL l).2.1) ≠ [] ∧ (∀ c ∈ saidL (firstL l).1 (l.take (firstL l).2.1), dig c = true) ∧ numV (saidL (firstL l).1 (l.take (firstL l).2.1)) ≤ 9223372036854775807) := by
  obtain ⟨c, r, rfl⟩ := List.exists_cons_of_ne_nil hl
  rw [firstL_cons] at h ⊢
  by_cases h1 : dig c = true
  · rw [if_pos h1] at h ⊢
    have hr : runL dig (c :: r) = runL dig r + 1 := by show (if dig c then _ else 0) = _; rw [if_pos h1]
    unfold numberL at h ⊢
    split at h
    · rename_i hc
      rw [if_pos hc]
      refine ⟨by simp, fun _ => ?_⟩
      show saidL 1 _ ≠ [] ∧ _
      have e : saidL 1 ((c :: r).take (runL dig (c :: r))) = (c :: r).take (runL dig (c :: r)) := if_neg (by decide)
      rw [show (((1 : Nat), runL dig (c :: r), (0 : Nat)) : Nat × Nat × Nat).2.1 = runL dig (c :: r) from rfl, show (((1 : Nat), runL dig (c :: r), (0 : Nat)) : Nat × Nat × Nat).1 = 1 from rfl, e]
      refine ⟨?_, runL_all dig (c :: r), hc.1⟩
      rw [hr]
      simp
    · cases h
  · rw [if_neg h1] at h ⊢
    by_cases h2 : ltr c = true
    · rw [if_pos h2] at h ⊢
      unfold nameL at h ⊢
      split
      · exact ⟨by simp, fun h => by simp at h⟩
      · rename_i hw
        rw [if_neg hw] at h
        split
        · rename_i h8
          rw [if_pos h8] at h
          cases h
        · exact ⟨by simp, fun h => by simp at h⟩
    · rw [if_neg h2] at h ⊢
      by_cases h3 : c = 34
      · rw [if_pos h3] at h ⊢
        unfold textL at h ⊢
        split
        · rename_i hw
          rw [if_pos hw] at h
          split
          · rename_i h8
            rw [if_pos h8] at h
            cases h
          · exact ⟨by simp, fun h => by simp at h⟩
        · rename_i hw
          rw [if_neg hw] at h
          cases h
      · rw [if_neg h3] at h ⊢
        unfold signL at h ⊢
        split
        · exact ⟨by simp, fun h => by simp at h⟩
        · rename_i hw
          rw [if_neg hw] at h
          split
          · exact ⟨by simp, fun h => by simp at h⟩
          · rename_i h8
            rw [if_neg h8] at h
            cases h
theorem said_len (k : Nat) (l : List UInt8) : (saidL k l).length ≤ l.length := by
  unfold saidL
  split
  · rw [List.length_drop, List.length_take]; omega
  · exact Nat.le_refl _
theorem lex_tokL (m : Nat) (l : List UInt8) (p : Nat) : p + l.length ≤ m → (lexL l p).2 = none → TokL m (lexL l p).1 := by
  refine lexL_ind (P := fun l p => p + l.length ≤ m → (lexL l p).2 = none → TokL m (lexL l p).1) ?_ ?_ ?_ ?_ ?_ ?_ l p
  · intro p hm _
    exact ⟨[], ⟨0, [], p⟩, rfl, rfl, rfl, by simpa using hm, fun t ht => by cases ht⟩
  · intro c r p h ih hm he
    rw [lexL_blank h] at he ⊢
    exact ih (by rw [List.length_cons] at hm; omega) he
  · intro c r p h h1 h2 hm he
    rw [lexL_rem_end h h1 h2]
    exact ⟨[], ⟨0, [], p + (c :: r).length⟩, rfl, rfl, rfl, hm, fun t ht => by cases ht⟩
  · intro c r p h h1 h2 ih hm he
    rw [lexL_rem h h1 h2] at he ⊢
    refine ih ?_ he
    have := runL_le (fun d => !decide (d = 10)) (c :: r)
    rw [List.length_drop]
    omega
  · intro c r p h h1 h2 hm he
    rw [lexL_bad h h1 h2] at he
    cases he
  · intro c r p h h1 h2 ih hm he
    have hs := first_size (c :: r) (by simp) h2
    have hf := first_tok (c :: r) h2 (by simp)
    rw [lexL_tok h h1 h2] at he ⊢
    obtain ⟨I, e, hT, h3, h4, h5, h6⟩ := ih (by rw [List.length_drop]; omega) he
    refine ⟨⟨(firstL (c :: r)).1, saidL (firstL (c :: r)).1 ((c :: r).take (firstL (c :: r)).2.1), p⟩ :: I, e, by rw [hT]; rfl, h3, h4, h5, fun t ht => ?_⟩
    rcases List.mem_cons.1 ht with rfl | ht
    · refine ⟨hf.1, hf.2, ?_, by show p ≤ m; omega⟩
      have h7 := said_len (firstL (c :: r)).1 ((c :: r).take (firstL (c :: r)).2.1)
      rw [List.length_take] at h7
      show (saidL _ _).length ≤ m
      omega
    · exact h6 t ht
theorem tokOK_of {m : Nat} {T : List Tok} (h : TokL m T) (hm : m ≤ 1000) (hl : T.length ≤ 1000) : TokOK T := by
  obtain ⟨I, e, rfl, h1, h2, h3, h4⟩ := h
  have hL : (I ++ [e]).length - 1 = I.length := by simp
  have hlast : (I ++ [e]).getD I.length default = e := by simp [List.getD]
  have hin : ∀ i, i < I.length → TokIn m ((I ++ [e]).getD i default) := fun i hi => by
    have : (I ++ [e]).getD i default = I[i] := by rw [List.getD, List.getElem?_append_left hi, List.getElem?_eq_getElem hi]; rfl
    rw [this]
    exact h4 _ (List.getElem_mem _)
  have all : ∀ i, i < (I ++ [e]).length → i < I.length ∨ i = I.length := fun i hi => by rw [List.length_append, List.length_singleton] at hi; omega
  refine ⟨by simp, hl, by rw [hL, hlast]; exact h1, fun i hi => (hin i (by rw [hL] at hi; exact hi)).1, fun i hi hk => ?_, fun i hi => ?_, fun i hi => ?_⟩
  · rcases all i hi with h5 | rfl
    · exact (hin i h5).2.1 hk
    · rw [hlast, h1] at hk; cases hk
  · rcases all i hi with h5 | rfl
    · exact Nat.le_trans (hin i h5).2.2.1 hm
    · rw [hlast, h2]; exact Nat.zero_le _
  · rcases all i hi with h5 | rfl
    · exact Nat.le_trans (hin i h5).2.2.2 hm
    · rw [hlast]; exact Nat.le_trans h3 hm
theorem tokOK_lex (l : List UInt8) (hl : l.length ≤ 600) (h : (lexL l 0).2 = none) : TokOK (lexL l 0).1 :=
  tokOK_of (lex_tokL 600 l 0 (by omega) h) (by omega) (by have := tokens_le l 0; omega)
end Go.Proofs.YtgelggdgbmldiaaDoor

namespace Go.Proofs.YtgelggdgbmldiaaDoor
open Go Go.RowKit Go.Shelf
set_option linter.unusedVariables false
set_option linter.unusedSimpArgs false
/-- A row of elements of k cells each, where it lies. -/
def RdG (w : World) (a : Option Addr) (xs : List Value) : Prop := 0 < xs.length → ∃ b off, a = some ⟨b, off, none⟩ ∧ ∀ k u, xs[k]? = some u → w.cell? ⟨b, off + k, none⟩ = some u
theorem RdG.keep {w w' : World} {S : Nat → Prop} {a : Option Addr} {xs : List Value} (h : RdG w a xs) (hk : Keeps S w w') (hr : 0 < xs.length → ∀ b off, a = some ⟨b, off, none⟩ → ¬ S b) : RdG w' a xs := fun h0 => by
  obtain ⟨b, off, e, hc⟩ := h h0
  exact ⟨b, off, e, fun k u hu => (hk.cell (cell_ltk (hc k u hu)) (hr h0 b off e)).trans (hc k u hu)⟩
theorem RdG.lt {w : World} {a : Option Addr} {xs : List Value} (h : RdG w a xs) (h0 : 0 < xs.length) {b off : Nat} (e : a = some ⟨b, off, none⟩) : b < w.heap.size := by
  obtain ⟨b', off', e', hc⟩ := h h0
  rw [e] at e'
  cases e'
  exact cell_ltk (hc 0 xs[0] (List.getElem?_eq_getElem h0))
theorem own_rdG {w : World} {e : TypeId} {k : Nat} {A : Option Addr} {n c : Nat} {xs : List Value} (h : w.ownsRow 0 e k (.slice A n c) n xs) : RdG w A xs := fun h0 => by
  rcases h.2 with ⟨e1, h1⟩ | ⟨g, cap, cur, e1, _⟩
  · rw [h.1, h1] at h0
    omega
  · have e2 : A = some ⟨g, 0, none⟩ := by injection e1
    subst e2
    refine ⟨g, 0, rfl, fun j u hu => ?_⟩
    rw [Nat.zero_add]
    have hj : j < n * k := by rw [← h.1]; exact (List.getElem?_eq_some_iff.1 hu).1
    exact (h.cellAt j hj).trans hu
/-- A function, and where its params lie. -/
structure FM where
  d : Fnc
  a : Option Addr
  c : Nat
def FM.cells (x : FM) : List Value := [.string (ofL x.d.s), .int .i64 x.d.ln, .slice x.a x.d.ps.length x.c, .int .i64 x.d.ret, .int .i64 x.d.body]
def flatF (L : List FM) : List Value := L.flatMap FM.cells
theorem flatF_more (L : List FM) (x : FM) : flatF (L ++ [x]) = flatF L ++ x.cells := by simp [flatF]
theorem FM.one (x : FM) : ∀ u ∈ x.cells, u.oneCell' = true := by
  intro u hu
  simp only [FM.cells, List.mem_cons, List.not_mem_nil, or_false] at hu
  rcases hu with rfl | rfl | rfl | rfl | rfl <;> rfl
theorem flatF_length (L : List FM) : (flatF L).length = L.length * 5 := by
  induction L with
  | nil => rfl
  | cons a L ih => show (a.cells ++ flatF L).length = _; rw [List.length_append, ih, List.length_cons]; show 5 + _ = _; omega
theorem flatN_length (L : List NM) : (flatN L).length = L.length * 5 := by
  induction L with
  | nil => rfl
  | cons a L ih => rw [flatN_cons, List.length_append, ih, List.length_cons]; show 5 + _ = _; omega
theorem flatP_length (L : List (List UInt8 × Int)) : (flatP L).length = L.length * 2 := by
  induction L with
  | nil => rfl
  | cons a L ih => show (PmV a ++ flatP L).length = _; rw [List.length_append, ih, List.length_cons]; show 2 + _ = _; omega
theorem flatF_at (L : List FM) (i j : Nat) (hi : i < L.length) (hj : j < 5) : (flatF L)[i * 5 + j]? = (L[i]).cells[j]? := by
  induction L generalizing i with
  | nil => exact absurd hi (Nat.not_lt_zero _)
  | cons a L ih =>
    show (a.cells ++ flatF L)[i * 5 + j]? = _
    cases i with
    | zero => rw [List.getElem?_append_left (by show 0 * 5 + j < 5; omega), Nat.zero_mul, Nat.zero_add]; rfl
    | succ i =>
      rw [List.getElem?_append_right (by show 5 ≤ _; omega), show (i + 1) * 5 + j - a.cells.length = i * 5 + j by show _ - 5 = _; omega]
      exact ih i (by simpa using hi)
theorem flatN_at (L : List NM) (i j : Nat) (hi : i < L.length) (hj : j < 5) : (flatN L)[i * 5 + j]? = (L[i]).cells[j]? := by
  induction L generalizing i with
  | nil => exact absurd hi (Nat.not_lt_zero _)
  | cons a L ih =>
    rw [flatN_cons]
    cases i with
    | zero => rw [List.getElem?_append_left (by show 0 * 5 + j < 5; omega), Nat.zero_mul, Nat.zero_add]; rfl
    | succ i =>
      rw [List.getElem?_append_right (by show 5 ≤ _; omega), show (i + 1) * 5 + j - a.cells.length = i * 5 + j by show _ - 5 = _; omega]
      exact ih i (by simpa using hi)
theorem info_func : (Tryd.prog.info? 36).map (fun i => (i.zero, i.size, i.bytes)) = some (some (.agg #[.string ⟨#[]⟩, .int .i64 0, .slice none 0 0, .int .i64 0, .int .i64 0]), 5, 64) := by kernel_rfl
/-- The functions so far. -/
structure FnsM (B : Nat) (w : World) (R : Nat → Prop) (v : Value) (n : Nat) (L : List FM) : Prop where
  hn : n = L.length
  own : w.ownsRow 0 36 5 v n (flatF L)
  blk : ∀ g, v.ownBlock = some g → ¬ R g ∧ B ≤ g
  ps : ∀ x ∈ L, RdG w x.a (flatP x.d.ps) ∧ (0 < (flatP x.d.ps).length → ∀ b off, x.a = some ⟨b, off, none⟩ → ¬ R b ∧ B ≤ b ∧ v.ownBlock ≠ some b)
theorem FnsM.keep {B : Nat} {w w' : World} {R R' : Nat → Prop} {v : Value} {n : Nat} {L : List FM} (h : FnsM B w R v n L) (f : Fr R w R' w') : FnsM B w' R' v n L :=
  ⟨h.hn, ownsRow_keep h.own (fun g hg => f.1.block g (own_ltk h.own hg) (h.blk g hg).1), fun g hg => ⟨fun hr => (h.blk g hg).1 (f.2 g (own_ltk h.own hg) hr), (h.blk g hg).2⟩,
    fun x hx => ⟨(h.ps x hx).1.keep f.1 (fun h0 b off e => ((h.ps x hx).2 h0 b off e).1), fun h0 b off e => ⟨fun hr => ((h.ps x hx).2 h0 b off e).1 (f.2 b ((h.ps x hx).1.lt h0 e) hr), ((h.ps x hx).2 h0 b off e).2⟩⟩⟩
theorem FnsM.keeps {B : Nat} {w w' : World} {R : Nat → Prop} {v : Value} {n : Nat} {L : List FM} (h : FnsM B w R v n L) (k : Keeps (fun _ => False) w w') : FnsM B w' R v n L := h.keep ((Fr.refl R w).keeps k)
theorem FnsM.more {B : Nat} {w w1 w5 : World} {R : Nat → Prop} {v v5 : Value} {n : Nat} {L : List FM} (h : FnsM B w R v n L) (hR : ∀ b, R b → b < w.heap.size) (hB : B ≤ w.heap.size) (k1 : Keeps (fun _ => False) w w1) (x : FM) (hx : RdG w1 x.a (flatP x.d.ps)) (hxb : 0 < (flatP x.d.ps).length → ∀ b off, x.a = some ⟨b, off, none⟩ → ¬ R b ∧ B ≤ b ∧ v.ownBlock ≠ some b)
    (ho : w5.ownsRow 0 36 5 v5 (n + 1) (flatF L ++ x.cells)) (hg : w1.grownBy w5 v.ownBlock) (hb : v5.ownBlock = v.ownBlock ∨ v5.ownBlock = some w1.heap.size) : FnsM B w5 R v5 (n + 1) (L ++ [x]) := by
  have k15 : Keeps (fun b => v.ownBlock = some b) w1 w5 := ⟨hg.os, hg.tape, hg.output, hg.size, fun b hb hn => hg.block b hb (fun e => hn e.symm)⟩
  have s1 := k1.size
  have out : ∀ b, b < w1.heap.size → v.ownBlock ≠ some b → v5.ownBlock ≠ some b := fun b hb2 hn e => by
    rcases hb with e5 | e5
    · exact hn (by rw [← e5]; exact e)
    · rw [e5] at e
      cases e
      omega
  refine ⟨by rw [List.length_append, h.hn]; rfl, by rw [flatF_more]; exact ho, fun g hg5 => ?_, fun y hy => ?_⟩
  · rcases hb with e5 | e5
    · rw [e5] at hg5
      exact h.blk g hg5
    · rw [e5] at hg5
      cases hg5
      exact ⟨fun hr => by have := hR _ hr; omega, by omega⟩
  · rcases List.mem_append.1 hy with hy | hy
    · have hy1 := (h.ps y hy).1.keep k1 (fun _ _ _ _ h => h)
      refine ⟨hy1.keep k15 (fun h0 b off e => ((h.ps y hy).2 h0 b off e).2.2), fun h0 b off e => ⟨((h.ps y hy).2 h0 b off e).1, ((h.ps y hy).2 h0 b off e).2.1, out b (hy1.lt h0 e) ((h.ps y hy).2 h0 b off e).2.2⟩⟩
    · rw [List.mem_singleton.1 hy]
      exact ⟨hx.keep k15 (fun h0 b off e => (hxb h0 b off e).2.2), fun h0 b off e => ⟨(hxb h0 b off e).1, (hxb h0 b off e).2.1, out b (hx.lt h0 e) (hxb h0 b off e).2.2⟩⟩
/-- A tree that can be read: its nodes and functions lie in blocks from B on. -/
structure TreeR (B : Nat) (w : World) (A A' : Option Addr) (nd : List Nd) (fs : List Fnc) : Prop where
  nodes : ∃ L : List NM, L.map NM.d = nd ∧ RdG w A (flatN L) ∧ ∀ x ∈ L, RdI w x.a x.d.l
  fns : ∃ L : List FM, L.map FM.d = fs ∧ RdG w A' (flatF L) ∧ ∀ x ∈ L, RdG w x.a (flatP x.d.ps)
theorem TreeR.keep {B : Nat} {w w' : World} {A A' : Option Addr} {nd : List Nd} {fs : List Fnc} (h : TreeR B w A A' nd fs) (k : Keeps (fun _ => False) w w') : TreeR B w' A A' nd fs := by
  obtain ⟨⟨L, h1, h2, h3⟩, ⟨M, h4, h5, h6⟩⟩ := h
  exact ⟨⟨L, h1, h2.keep k (fun _ _ _ _ h => h), fun x hx => (h3 x hx).keep k (fun _ _ _ _ h => h)⟩, ⟨M, h4, h5.keep k (fun _ _ _ _ h => h), fun x hx => (h6 x hx).keep k (fun _ _ _ _ h => h)⟩⟩
/-- What a parser tells. -/
def TreeE (B : Nat) (res : (Nat × Nat) ⊕ (List Nd × List Fnc)) (e : Ending) (w' : World) : Prop :=
  match res with
  | .inl pe => e = .returned (.tuple #[.agg #[.slice none 0 0, .slice none 0 0], .int .i64 (pe.1 : Int), .int .i64 (pe.2 : Int)])
  | .inr t => ∃ A c A' c', e = .returned (.tuple #[.agg #[.slice A t.1.length c, .slice A' t.2.length c'], .int .i64 0, .int .i64 0]) ∧ TreeR B w' A A' t.1 t.2
theorem fn_out {w' : World} {Af : Option Addr} {n cf Bw B : Nat} {l : List (List UInt8 × Int)} {R' : Nat → Prop} {v : Value} (ho : w'.ownsRow 0 59 2 (.slice Af n cf) n (flatP l)) (hb : ∀ g, (Value.slice Af n cf).ownBlock = some g → ¬ R' g ∧ Bw ≤ g) (hv : ∀ g, v.ownBlock = some g → g < Bw) (hB : B ≤ Bw) :
    0 < (flatP l).length → ∀ b off, Af = some ⟨b, off, none⟩ → ¬ R' b ∧ B ≤ b ∧ v.ownBlock ≠ some b := fun h0 b off e => by
  have e1 : (Value.slice Af n cf).ownBlock = some b := by rw [e]; rfl
  exact ⟨(hb b e1).1, Nat.le_trans hB (hb b e1).2, fun e2 => by have h1 := hv b e2; have h2 := (hb b e1).2; omega⟩
theorem treeE_inl {B p er : Nat} {res : (Nat × Nat) ⊕ (List Nd × List Fnc)} (h : res = .inl (p, er)) (w' : World) : TreeE B res (.returned (.tuple #[.agg #[.slice none 0 0, .slice none 0 0], .int .i64 (p : Int), .int .i64 (er : Int)])) w' := by
  rw [h]
  exact rfl
theorem treeE_inr {B : Nat} {res : (Nat × Nat) ⊕ (List Nd × List Fnc)} {nd : List Nd} {fs : List Fnc} (h : res = .inr (nd, fs)) {w' : World} {A A' : Option Addr} {c c' m n : Nat} (hm : m = nd.length) (hn : n = fs.length) (ht : TreeR B w' A A' nd fs) : TreeE B res (.returned (.tuple #[.agg #[.slice A m c, .slice A' n c'], .int .i64 0, .int .i64 0])) w' := by
  rw [h, hm, hn]
  exact ⟨A, c, A', c', rfl, ht⟩
end Go.Proofs.YtgelggdgbmldiaaDoor

namespace Go.Proofs.YtgelggdgbmldiaaDoor
open Go Go.RowKit Go.Shelf
set_option linter.unusedVariables false
set_option linter.unusedSimpArgs false
theorem results_cell_tmp3 {fn : Func} {p u v : Tmp} {ty : TypeId} (h : fn.results = #[.cell p ty, .tmp u, .tmp v]) (tmps : Array Value) (P : Program) (w : World) :
    (results fn tmps).run P w =
      ((asAddr (tmps.getD p undef)).run P w).andThen fun a w₁ => ((loadVar ty a).run P w₁).andThen fun x w₂ => .ok (.tuple #[x, tmps.getD u undef, tmps.getD v undef]) w₂ := by
  simp only [results, h]
  simp [Sem.run_bind, Result.andThen]
end Go.Proofs.YtgelggdgbmldiaaDoor
