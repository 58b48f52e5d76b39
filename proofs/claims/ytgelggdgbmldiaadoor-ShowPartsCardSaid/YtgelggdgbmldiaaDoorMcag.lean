/-
  What stays in memory; append of elements of many cells. Written by an AI agent.
  Layer 1: the contracts of digit, letter, blank, and of how many bytes are of a kind. Written by an AI agent.
  Layer 1: the contract of run: how many bytes at the beginning are of a kind. Written by an AI agent.
  Layer 1: the contracts of Word, name, text, said. Written by an AI agent.
  Layer 1: the contract of number. Written by an AI agent.
  Layer 1: tokens in memory; the contract of what puts one behind the others. Written by an AI agent.
  Layer 1: the contract of All. Written by an AI agent.
  Layer 1: what All tells, case by case; the document's example; short. Written by an AI agent.
  Layer 1: the line of a place. Written by an AI agent.
  Layer 2: the parser in memory. Written by an AI agent.
  Layer 2: the cursor's functions. Written by an AI agent.
  Layer 2: what the cursor looks for. Written by an AI agent.
  Layer 2: a node is put. Written by an AI agent.
  Layer 2: open, shut, calls, Type; what serves the parser's walks. Written by an AI agent.
  Layer 2: rows of numbers that go below a node; a node by its contract. Written by an AI agent.
  Layer 2: inside, variable, ended. Written by an AI agent.
-/
import Derived.Lib.Bytealg
import Derived.Test.YtgelggdgbmldiaaDoorChecked
import Derived.Laws.OwnMore
import Derived.Laws.AppendOwnNone
import Derived.OwnWalk
import Derived.Lib.AppendZerosOnto
import Derived.Below
import Derived.Stop.Walk2
import Derived.WalkKit
import Derived.WalkLawsBesides
import Derived.WalkSpells
import Derived.Outline
import Derived.BigQuiet
import Derived.Deep.CutBlock
import Derived.Deep.CutRange
import Derived.Deep.DeepCutAuto
import Derived.Deep.RegionHeld3
import Derived.Deep.RegionLaw
import Derived.Deep.RegionWith
import Derived.StillTailTactics
import Derived.RegionTactic
import Derived.Laws.StructEq
import Derived.Lib.Hide
import Derived.Test.YtgelggdgbmldiaaDoorMcaa
import Derived.Test.YtgelggdgbmldiaaDoorMcac
import Derived.Test.YtgelggdgbmldiaaDoorMcad
import Derived.Shelf.Abstract
import Derived.Shelf.Lay
import Derived.Ground.NamesProg
import Derived.Shelf.Strings.Prefix
import Derived.Shelf.Small.Strs
import Derived.Shelf.Strings.Count
import Derived.Shelf.Strconv.ErrVarParseInt
import Derived.WalkMore
import Derived.Scope
import Derived.Shelf.Slices.Turned
import Derived.Lib.SlicesS
import Derived.Deep.RegionHeld
namespace Go.Proofs.YtgelggdgbmldiaaDoor
open Go.RowKit
set_option linter.unusedVariables false
set_option linter.unusedSimpArgs false
/-- Only blocks of S may have changed; what is new stands behind. -/
structure Keeps (S : Nat → Prop) (w w' : World) : Prop where
  os : w'.os = w.os
  tape : w'.tape = w.tape
  output : w'.output = w.output
  size : w.heap.size ≤ w'.heap.size
  block : ∀ k, k < w.heap.size → ¬ S k → w'.heap[k]? = w.heap[k]?
theorem Keeps.refl (S : Nat → Prop) (w : World) : Keeps S w w := ⟨rfl, rfl, rfl, Nat.le_refl _, fun _ _ _ => rfl⟩
theorem Keeps.mono {S T : Nat → Prop} {w w' : World} (h : Keeps S w w') (hs : ∀ k, k < w.heap.size → S k → T k) : Keeps T w w' :=
  ⟨h.os, h.tape, h.output, h.size, fun k hk hn => h.block k hk fun hs' => hn (hs k hk hs')⟩
theorem Keeps.trans {S T : Nat → Prop} {a b c : World} (h : Keeps S a b) (k : Keeps T b c) (hs : ∀ x, x < a.heap.size → T x → S x) : Keeps S a c :=
  ⟨k.os.trans h.os, k.tape.trans h.tape, k.output.trans h.output, Nat.le_trans h.size k.size,
    fun x hx hn => (k.block x (Nat.lt_of_lt_of_le hx h.size) fun ht => hn (hs x hx ht)).trans (h.block x hx hn)⟩
theorem Keeps.drew {S : Nat → Prop} {a w : World} (h : Keeps S a w) : Keeps S a w.drew := ⟨h.os, h.tape, h.output, h.size, h.block⟩
theorem Keeps.alloc {S : Nat → Prop} {a w : World} (h : Keeps S a w) (o : Obj) : Keeps S a (w.alloc o) :=
  h.trans (T := S) ⟨rfl, rfl, rfl, by simp, fun k hk _ => Below.heap_alloc w o k hk⟩ (fun _ _ h => h)
theorem Keeps.setCell {S : Nat → Prop} {a w : World} (h : Keeps S a w) {p : Addr} (hp : p.block < a.heap.size → S p.block) (u : Value) : Keeps S a (w.setCell p u) :=
  ⟨h.os, h.tape, h.output, by simpa using h.size, fun k hk hn => (Below.heap_setCell w p u k (fun e => hn (by subst e; exact hp hk))).trans (h.block k hk hn)⟩
theorem Keeps.grown {S : Nat → Prop} {a w w' : World} {row : Option Nat} (h : Keeps S a w) (hg : w.grownBy w' row) (hr : ∀ k, row = some k → k < a.heap.size → S k) : Keeps S a w' :=
  ⟨hg.os.trans h.os, hg.tape.trans h.tape, hg.output.trans h.output, Nat.le_trans h.size hg.size,
    fun k hk hn => (hg.block k (Nat.lt_of_lt_of_le hk h.size) fun e => hn (hr k e.symm hk)).trans (h.block k hk hn)⟩
theorem Keeps.ofBelow {S : Nat → Prop} {w w' : World} (h : Below w.heap.size w w') : Keeps S w w' := ⟨h.os, h.tape, h.output, h.size, fun k hk _ => h.block k hk⟩
theorem Keeps.toBelow {S : Nat → Prop} {B : Nat} {w w' : World} (h : Keeps S w w') (hB : B ≤ w.heap.size) (hs : ∀ k, S k → B ≤ k) : Below B w w' :=
  ⟨h.os, h.tape, h.output, h.size, fun k hk => h.block k (Nat.lt_of_lt_of_le hk hB) fun hS => absurd (hs k hS) (by omega)⟩
theorem Keeps.cell {S : Nat → Prop} {w w' : World} (h : Keeps S w w') {b o : Nat} (hb : b < w.heap.size) (hn : ¬ S b) : w'.cell? ⟨b, o, none⟩ = w.cell? ⟨b, o, none⟩ :=
  World.cell?_of_block (w := w) (h.block b hb hn)
theorem Keeps.frozen {S : Nat → Prop} {w w' : World} (h : Keeps S w w') {b o : Nat} (hb : b < w.heap.size) (hn : ¬ S b) : w'.frozen? ⟨b, o, none⟩ = w.frozen? ⟨b, o, none⟩ :=
  World.frozen?_of_block (w := w) (h.block b hb hn)
/-- A row of the call's own stays so, if its block is kept. -/
theorem ownsRow_keep {w w' : World} {base e size : Nat} {v : Value} {n : Nat} {xs : List Value} (h : w.ownsRow base e size v n xs) (hk : ∀ k, v.ownBlock = some k → w'.heap[k]? = w.heap[k]?) :
    w'.ownsRow base e size v n xs := by
  refine ⟨h.1, ?_⟩
  rcases h.2 with h0 | ⟨g, cap, cur, rfl, hb, hg, r⟩
  · exact .inl h0
  · exact .inr ⟨g, cap, cur, rfl, hb, (hk g rfl).trans hg, r⟩
theorem own_ltk {w : World} {base e size : Nat} {v : Value} {n : Nat} {xs : List Value} (h : w.ownsRow base e size v n xs) {k : Nat} (hk : v.ownBlock = some k) : k < w.heap.size := (h.lt k hk).2
theorem own_formk {w : World} {b e size : Nat} {v : Value} {n : Nat} {xs : List Value} (h : w.ownsRow b e size v n xs) : ∃ A c, v = .slice A n c := by
  rcases h.2 with ⟨e1, h0⟩ | ⟨g, cap, cur, e1, _⟩
  · exact ⟨none, 0, by rw [e1, h0]⟩
  · exact ⟨_, cap, e1⟩
theorem cell_ltk {w : World} {b o : Nat} {v : Value} (h : w.cell? ⟨b, o, none⟩ = some v) : b < w.heap.size := by
  rcases Nat.lt_or_ge b w.heap.size with h1 | h1
  · exact h1
  · have e : w.heap[b]? = none := Array.getElem?_eq_none h1
    unfold World.cell? at h
    simp [e] at h
theorem drew_keeps (w : World) (n : Nat) : Keeps (fun _ => False) w (w.drewN n) := ⟨rfl, rfl, rfl, Nat.le_refl _, fun _ _ _ => rfl⟩
/-- 'append' of elements of many cells onto a row of the call's own, and where the new row lies. -/
theorem run_append_atk {P : Program} (w : World) (base : Nat) (t ty e : TypeId) (i : TypeInfo) (z : Value) (size bytes : Nat) (ht : P.underlying t = some (.slice e)) (hi : P.info? e = some i) (hz : i.zero = some z)
    (hsize : i.size = size) (hby : i.bytes = bytes) (hzs : z.cells.size = size) (hsz : 0 < size)
    (v : Value) (n : Nat) (xs : List Value) (hown : w.ownsRow base e size v n xs)
    (a : Addr) (m c : Nat) (news : List Value) (hl : news.length = m * size) (hnews : ∀ j u, news[j]? = some u → w.cell? (a.add j) = some u) (h1 : ∀ u ∈ news, u.oneCell' = true)
    (h63 : n + m ≤ maxLen) (hbytes : (n + m) * bytes ≤ 140737488355328) (hbase : base ≤ w.heap.size) :
    ∃ v' w', (Builtin.append_ #[t, t] ty #[v, .slice (some a) m c]).run P w = .ok v' w' ∧ w'.ownsRow base e size v' (n + m) (xs ++ news) ∧ w.grownBy w' v.ownBlock ∧
      (v'.ownBlock = v.ownBlock ∨ v'.ownBlock = some w.heap.size) := by
  have hmi : news.length = m * i.size := by rw [hsize]; exact hl
  obtain ⟨v', w', hr, ho, hg, hn⟩ := run_append_own (P := P) (w := w) base t ty e i z size bytes ht hi hz hsize hby hzs hsz v n xs hown a m c news hl hnews h1 h63 hbytes hbase
  refine ⟨v', w', hr, ho, hg, ?_⟩
  have h63' : n + m ≤ 9223372036854775807 := by simp only [maxLen] at h63; omega
  rcases hown.2 with ⟨rfl, rfl⟩ | ⟨g, cap, cur, rfl, hbg, hgg, hnc, hcm, hcs, htake⟩
  · by_cases hm : m = 0
    · left
      rw [hn.2 ⟨rfl, hm⟩]
    · right
      rw [run_append_nil (P := P) w t ty e i z ht hi hz a m c news hmi hnews (by omega) (by omega) (by rw [hby]; simp only [Nat.zero_add] at hbytes; omega)] at hr
      cases hr
      rfl
  · by_cases hroom : n + m ≤ cap
    · left
      rw [run_append_room (P := P) w t ty e i ht hi g n cap cur hgg a m c news hmi hnews h1 hroom (by rw [hsize, hcs, hl, ← Nat.add_mul]; exact Nat.mul_le_mul_right _ hroom)] at hr
      cases hr
      rfl
    · right
      have holds : ∀ j u, xs[j]? = some u → w.cell? ((⟨g, 0, none⟩ : Addr).add j) = some u := hown.cells (g := g) rfl
      rw [run_append_grow (P := P) w t ty e i z ht hi hz ⟨g, 0, none⟩ n cap xs (by rw [hsize]; exact hown.1) holds a m c news hmi hnews (by omega) (by omega) (growslice_fits (by omega) (by rw [hby]; exact hbytes))] at hr
      cases hr
      rfl
theorem wpList_append_atk {P : Program} {w : World} {ops : Array Oper} {rest : List Oper} {o : Oper} {a : Act} {Q : Exit → Act → World → Prop} (hgd : o.guard = none) (s x : Operand) (t : TypeId)
    (ho : o.op = .call { callee := .builtin .append, args := #[s, x], argTypes := #[t, t] })
    (base : Nat) (e : TypeId) (i : TypeInfo) (z : Value) (size bytes : Nat) (ht : P.underlying t = some (.slice e)) (hi : P.info? e = some i) (hz : i.zero = some z)
    (hsize : i.size = size) (hby : i.bytes = bytes) (hzs : z.cells.size = size) (hsz : 0 < size)
    (v : Value) (n : Nat) (xs : List Value) (hs : a.eval s = v) (hown : w.ownsRow base e size v n xs)
    (ad : Addr) (m c : Nat) (news : List Value) (hx : a.eval x = .slice (some ad) m c) (hl : news.length = m * size) (hnews : ∀ j u, news[j]? = some u → w.cell? (ad.add j) = some u) (h1 : ∀ u ∈ news, u.oneCell' = true)
    (h63 : n + m ≤ 1000000) (hby2 : bytes ≤ 64) (hbase : base ≤ w.heap.size)
    (h : ∀ v' w', w'.ownsRow base e size v' (n + m) (xs ++ news) → w.grownBy w' v.ownBlock → (v'.ownBlock = v.ownBlock ∨ v'.ownBlock = some w.heap.size) → wpList P ops Q rest (a.put o.dst v') w') :
    wpList P ops Q (o :: rest) a w := by
  have hb : (n + m) * bytes ≤ 140737488355328 := Nat.le_trans (Nat.mul_le_mul h63 hby2) (by omega)
  obtain ⟨v', w', hrun, q1, q2, q3⟩ := run_append_atk (P := P) w base t o.type e i z size bytes ht hi hz hsize hby hzs hsz v n xs hown ad m c news hl hnews h1 (by unfold maxLen; omega) hb hbase
  exact Lib.wpList_append_run w hgd s x t t ho v _ hs hx v' w' hrun (h v' w' q1 q2 q3)
end Go.Proofs.YtgelggdgbmldiaaDoor

namespace Go.Proofs.YtgelggdgbmldiaaDoor
open Go.RowKit
set_option linter.unusedVariables false
set_option linter.unusedSimpArgs false
theorem u8_lt (c : UInt8) : c.toNat < 256 := c.toNat_lt
end Go.Proofs.YtgelggdgbmldiaaDoor

namespace Go.Proofs.YtgelggdgbmldiaaDoor
open Go.RowKit Go.Shelf
set_option linter.unusedVariables false
set_option linter.unusedSimpArgs false
theorem at_byte (s : ByteArray) (k : Nat) (h : k < s.size) : s.data.toList[k]? = some s[k] := by
  have h2 : k < s.data.toList.length := by simpa using h
  rw [List.getElem?_eq_getElem h2]
  rfl
end Go.Proofs.YtgelggdgbmldiaaDoor

namespace Go.Proofs.YtgelggdgbmldiaaDoor
open Go.RowKit
set_option linter.unusedVariables false
set_option linter.unusedSimpArgs false
theorem toList_data (s : ByteArray) : s.toList = s.data.toList := Lib.toList_data s
theorem bytes_ext {a b : ByteArray} (h : a.data.toList = b.data.toList) : a = b := by
  obtain ⟨x⟩ := a
  obtain ⟨y⟩ := b
  have : x = y := Array.toList_inj.1 h
  rw [this]
theorem ext_take (s : ByteArray) (k : Nat) : (s.extract 0 k).data.toList = s.data.toList.take k := by simp
theorem ext_drop (s : ByteArray) (k : Nat) : (s.extract k s.size).data.toList = s.data.toList.drop k := by
  simp
  rw [List.take_of_length_le]
  have : s.data.toList.length = s.size := by simp
  rw [List.length_drop, this]
  exact Nat.le_refl _
theorem ext_size2 (s : ByteArray) (k : Nat) : (s.extract k s.size).size = s.size - k := by simp
theorem len_size (s : ByteArray) : s.data.toList.length = s.size := by simp
theorem word_beq (s : ByteArray) (l : List UInt8) : (s.toList == l) = decide (s.data.toList = l) := by
  rw [toList_data, Bool.eq_iff_iff]
  simp
/-- Bytes as a string. -/
def ofL (l : List UInt8) : ByteArray := ⟨l.toArray⟩
theorem ofL_list (l : List UInt8) : (ofL l).data.toList = l := by simp [ofL]
theorem ofL_size (l : List UInt8) : (ofL l).size = l.length := by rw [← len_size, ofL_list]
theorem ofL_of {s : ByteArray} {l : List UInt8} (h : s.data.toList = l) : s = ofL l := bytes_ext (by rw [h, ofL_list])
end Go.Proofs.YtgelggdgbmldiaaDoor

namespace Go.Proofs.YtgelggdgbmldiaaDoor
open Go.RowKit Go.Shelf
set_option linter.unusedVariables false
set_option linter.unusedSimpArgs false
def numA (a : Nat) (l : List UInt8) : Nat := l.foldl (fun a c => a * 10 + (c.toNat - 48)) a
theorem numA_le (a : Nat) (l : List UInt8) : a ≤ numA a l := by
  induction l generalizing a with
  | nil => exact Nat.le_refl _
  | cons c r ih =>
    have h := ih (a * 10 + (c.toNat - 48))
    show a ≤ numA (a * 10 + (c.toNat - 48)) r
    omega
theorem numA_cons (a : Nat) (c : UInt8) (r : List UInt8) : numA a (c :: r) = numA (a * 10 + (c.toNat - 48)) r := by unfold numA; rw [List.foldl_cons]
theorem parseM_ok (l : List UInt8) (hd : ∀ c ∈ l, dig c = true) (M : Nat) (hM : M = 18446744073709551615) (a : Nat) (h : numA a l ≤ M) : Lib.parseUintM M a l = .ok (numA a l) := by
  induction l generalizing a with
  | nil => unfold Lib.parseUintM; unfold numA; rw [List.foldl_nil]
  | cons c r ih =>
    have h1 := hd c (by simp)
    unfold dig at h1
    simp only [Bool.and_eq_true, decide_eq_true_eq] at h1
    rw [numA_cons] at h ⊢
    have h2 := numA_le (a * 10 + (c.toNat - 48)) r
    have hr := ih (fun d hd2 => hd d (by simp [hd2])) _ h
    have h3 : ¬ 1844674407370955162 ≤ a := fun h5 => by omega
    have h4 : ¬ M < a * 10 + (c.toNat - 48) := fun h5 => by omega
    unfold Lib.parseUintM
    rw [if_pos h1, if_neg h3, if_neg h4]
    exact hr
theorem parseM_range (l : List UInt8) (hd : ∀ c ∈ l, dig c = true) (M : Nat) (hM : M = 18446744073709551615) (a : Nat) (ha : a ≤ M) (h : M < numA a l) : Lib.parseUintM M a l = .range := by
  induction l generalizing a with
  | nil => exact absurd h (by show ¬ M < a; omega)
  | cons c r ih =>
    have h1 := hd c (by simp)
    unfold dig at h1
    simp only [Bool.and_eq_true, decide_eq_true_eq] at h1
    rw [numA_cons] at h
    unfold Lib.parseUintM
    rw [if_pos h1]
    by_cases h2 : 1844674407370955162 ≤ a
    · rw [if_pos h2]
    · rw [if_neg h2]
      by_cases h3 : M < a * 10 + (c.toNat - 48)
      · rw [if_pos h3]
      · rw [if_neg h3]
        exact ih (fun d hd2 => hd d (by simp [hd2])) _ (by omega) h
theorem parse_digits (l : List UInt8) (hne : l ≠ []) (hd : ∀ c ∈ l, dig c = true) : Lib.parseIntB 64 l = if numV l ≤ 9223372036854775807 then .ok ((numV l : Nat) : Int) else .range := by
  obtain ⟨c, r, rfl⟩ := List.exists_cons_of_ne_nil hne
  have h1 := hd c (by simp)
  unfold dig at h1
  simp only [Bool.and_eq_true, decide_eq_true_eq] at h1
  have e1 : ¬ c.toNat = 45 := by omega
  have e2 : ¬ (c.toNat = 43 ∨ c.toNat = 45) := by omega
  unfold Lib.parseIntB
  simp only [if_neg e2]
  unfold Lib.parseUintB
  rw [if_neg hne]
  obtain ⟨M, hM⟩ : ∃ M : Nat, M = 2 ^ 64 - 1 := ⟨_, rfl⟩
  have hM2 : M = 18446744073709551615 := by rw [hM]
  rw [← hM]
  have hv : numV (c :: r) = numA 0 (c :: r) := rfl
  by_cases h : numA 0 (c :: r) ≤ M
  · rw [parseM_ok _ hd M hM2 0 h]
    rw [hv]
    by_cases h2 : numA 0 (c :: r) ≤ 9223372036854775807
    · rw [if_pos h2]
      simp only [e1, not_false_eq_true, true_and, false_and, if_false]
      rw [if_neg (by omega)]
    · rw [if_neg h2]
      simp only [e1, not_false_eq_true, true_and, false_and, if_false]
      rw [if_pos (by omega)]
  · rw [parseM_range _ hd M hM2 0 (by omega) (by omega)]
    rw [hv, if_neg (by omega)]
theorem keeps_bytes (w : World) (t5 : TypeId) (t : ByteArray) (w' : World) (h : w' = w ∨ ∃ t, w' = Lib.bytesWorld w t5 t) : Keeps (fun _ => False) w w' := by
  rcases h with rfl | ⟨t, rfl⟩
  · exact Keeps.refl _ _
  · exact Keeps.ofBelow (Lib.bytesWorld_below _ _ _)
end Go.Proofs.YtgelggdgbmldiaaDoor

namespace Go.Proofs.YtgelggdgbmldiaaDoor
open Go.RowKit Go.Shelf
set_option linter.unusedVariables false
set_option linter.unusedSimpArgs false
theorem info33 : (Tryd.prog.info? 54).map (fun i => (i.zero, i.size, i.bytes)) = some (some (.agg #[.int .i64 0, .string ⟨#[]⟩, .int .i64 0]), 3, 32) := by kernel_rfl
theorem info_parts {P : Program} {t : TypeId} {z : Value} {sz by' : Nat} (h : (P.info? t).map (fun i => (i.zero, i.size, i.bytes)) = some (some z, sz, by')) : ∃ i, P.info? t = some i ∧ i.zero = some z ∧ i.size = sz ∧ i.bytes = by' := by
  cases hi : P.info? t with
  | none => rw [hi] at h; cases h
  | some i =>
    rw [hi] at h
    have h2 := Option.some.inj h
    exact ⟨i, rfl, congrArg (·.1) h2, congrArg (·.2.1) h2, congrArg (·.2.2) h2⟩
def Tok.cells (t : Tok) : List Value := [.int .i64 (t.k : Int), .string (ofL t.x), .int .i64 (t.p : Int)]
def flatT (L : List Tok) : List Value := L.flatMap Tok.cells
theorem flatT_cons (a : Tok) (L : List Tok) : flatT (a :: L) = a.cells ++ flatT L := by simp [flatT]
theorem flatT_append (L M : List Tok) : flatT (L ++ M) = flatT L ++ flatT M := by simp [flatT]
theorem flatT_one (L : List Tok) : ∀ u ∈ flatT L, u.oneCell' = true := by
  intro u hu
  simp only [flatT, List.mem_flatMap] at hu
  obtain ⟨a, _, hu⟩ := hu
  simp only [Tok.cells, List.mem_cons, List.not_mem_nil, or_false] at hu
  rcases hu with rfl | rfl | rfl <;> rfl
theorem flatT_at (L : List Tok) (i : Nat) (h : i < L.length) : (flatT L)[i * 3]? = some (.int .i64 ((L.getD i default).k : Int)) ∧ (flatT L)[i * 3 + 1]? = some (.string (ofL (L.getD i default).x)) ∧ (flatT L)[i * 3 + 2]? = some (.int .i64 ((L.getD i default).p : Int)) := by
  induction L generalizing i with
  | nil => exact absurd h (Nat.not_lt_zero _)
  | cons a L ih =>
    rw [flatT_cons]
    cases i with
    | zero => exact ⟨rfl, rfl, rfl⟩
    | succ i =>
      have h2 := ih i (by simpa using h)
      rw [show (i + 1) * 3 = i * 3 + 1 + 1 + 1 by omega]
      exact h2
theorem own_of {w : World} {v : Value} {n : Nat} {xs : List Value} (h : w.ownsRow 0 54 3 v n xs) {w' : World} (hk : Keeps (fun _ => False) w w') : w'.ownsRow 0 54 3 v n xs := ownsRow_keep h fun k hk2 => hk.block k (own_ltk h hk2) (fun h => h)
theorem Tok.one (x : Tok) : ∀ u ∈ x.cells, u.oneCell' = true := by
  intro u hu
  simp only [Tok.cells, List.mem_cons, List.not_mem_nil, or_false] at hu
  rcases hu with rfl | rfl | rfl <;> rfl
theorem news3 {w : World} {s : Nat} (x : Tok) (t : TypeId) (hs : w.heap.size = s) : ∀ j u, x.cells[j]? = some u → (w.alloc (.cells x.cells.toArray t)).cell? ((⟨s, 0, none⟩ : Addr).add j) = some u := by
  intro j u h
  subst hs
  have e : (⟨w.heap.size, 0, none⟩ : Addr).add j = ⟨w.heap.size, j, none⟩ := by unfold Addr.add; split <;> simp_all
  rw [e]
  have hj : j < 3 := (List.getElem?_eq_some_iff.1 h).1
  match j, hj with
  | 0, _ => simpa [Tok.cells] using h
  | 1, _ => simpa [Tok.cells] using h
  | 2, _ => simpa [Tok.cells] using h
theorem cell_other (w : World) {p q : Nat} (i j : Nat) (v : Value) (h : i ≠ j ∨ p ≠ q) : (w.setCell ⟨p, i, none⟩ v).cell? ⟨q, j, none⟩ = w.cell? ⟨q, j, none⟩ := World.cell?_setCell_other w _ _ _ (by simp only [ne_eq, Addr.mk.injEq, and_true]; omega)
theorem cell_same (w : World) (p i : Nat) (v x : Value) (h : w.cell? ⟨p, i, none⟩ = some x) : (w.setCell ⟨p, i, none⟩ v).cell? ⟨p, i, none⟩ = some v := World.cell?_setCell_same' w _ _ (by rw [h]; rfl)
section
variable {w w' : World} {B po pa p : Nat} {v : Value} {L : List Tok}
end
end Go.Proofs.YtgelggdgbmldiaaDoor

namespace Go.Proofs.YtgelggdgbmldiaaDoor
open Go.RowKit Go.Shelf
set_option linter.unusedVariables false
set_option linter.unusedSimpArgs false
/-- New tokens. -/
def NewT (L : List Tok) (w : World) (A : Option Addr) (c : Nat) (w' : World) : Prop :=
  w'.ownsRow 0 54 3 (.slice A L.length c) L.length (flatT L) ∧ (∀ g, (Value.slice A L.length c).ownBlock = some g → w.heap.size ≤ g)
/-- What All tells. -/
def AllE (l : List UInt8) (w : World) (e : Ending) (w' : World) : Prop :=
  (if 600 < l.length then e = .returned (.tuple #[.slice none 0 0, .int .i64 0, .int .i64 4])
   else match (lexL l 0).2 with
    | none => ∃ A c, e = .returned (.tuple #[.slice A (lexL l 0).1.length c, .int .i64 0, .int .i64 0]) ∧ NewT (lexL l 0).1 w A c w'
    | some (q, er) => e = .returned (.tuple #[.slice none 0 0, .int .i64 (q : Int), .int .i64 (er : Int)])) ∧ Keeps (fun _ => False) w w'
theorem kback {B : Nat} {w w' : World} (h : Keeps (fun b => B ≤ b) w w') (hB : B = w.heap.size) : Keeps (fun _ => False) w w' :=
  ⟨h.os, h.tape, h.output, h.size, fun k hk hn => h.block k hk (fun h2 => by omega)⟩
theorem tokens_le (l : List UInt8) (p : Nat) : (lexL l p).1.length ≤ l.length + 1 := by
  refine lexL_ind (P := fun l p => (lexL l p).1.length ≤ l.length + 1) ?_ ?_ ?_ ?_ ?_ ?_ l p
  · intro p; exact Nat.le_refl _
  · intro c r p h ih; rw [lexL_blank h, List.length_cons]; omega
  · intro c r p h h1 h2; rw [lexL_rem_end h h1 h2]; simp
  · intro c r p h h1 h2 ih; rw [lexL_rem h h1 h2]; rw [List.length_drop] at ih; omega
  · intro c r p h h1 h2; rw [lexL_bad h h1 h2]; simp
  · intro c r p h h1 h2 ih
    have := first_size (c :: r) (by simp) h2
    rw [lexL_tok h h1 h2]
    rw [List.length_drop] at ih
    simp only [List.length_cons] at ih this ⊢
    omega
end Go.Proofs.YtgelggdgbmldiaaDoor

namespace Go.Proofs.YtgelggdgbmldiaaDoor
open Go.RowKit Go.Shelf
set_option linter.unusedVariables false
set_option linter.unusedSimpArgs false
/-- What lies at a slice's cells: tokens. -/
def RdT (w : World) (A : Option Addr) (L : List Tok) : Prop := 0 < L.length → ∃ b off, A = some ⟨b, off, none⟩ ∧ ∀ k, k < L.length →
  w.cell? ⟨b, off + k * 3, none⟩ = some (.int .i64 ((L.getD k default).k : Int)) ∧ w.cell? ⟨b, off + k * 3 + 1, none⟩ = some (.string (ofL (L.getD k default).x)) ∧ w.cell? ⟨b, off + k * 3 + 2, none⟩ = some (.int .i64 ((L.getD k default).p : Int))
theorem RdT.keep {w w' : World} {A : Option Addr} {L : List Tok} (h : RdT w A L) (hk : Keeps (fun _ => False) w w') : RdT w' A L := fun h0 => by
  obtain ⟨b, off, e, hc⟩ := h h0
  have hb : b < w.heap.size := cell_ltk (hc 0 h0).1
  refine ⟨b, off, e, fun k hk2 => ?_⟩
  obtain ⟨c0, c1, c2⟩ := hc k hk2
  exact ⟨(hk.cell hb (fun h => h)).trans c0, (hk.cell hb (fun h => h)).trans c1, (hk.cell hb (fun h => h)).trans c2⟩
theorem own_rdT {w : World} {A : Option Addr} {c n : Nat} {L : List Tok} (h : w.ownsRow 0 54 3 (.slice A n c) n (flatT L)) (hn : n = L.length) : RdT w A L := fun h0 => by
  rcases h.2 with ⟨_, h1⟩ | ⟨g, cap, cur, e1, _⟩
  · omega
  · simp only [Value.slice.injEq] at e1
    obtain ⟨rfl, _, rfl⟩ := e1
    refine ⟨g, 0, rfl, fun k hk => ?_⟩
    obtain ⟨f0, f1, f2⟩ := flatT_at L k hk
    rw [Nat.zero_add]
    exact ⟨(h.cellAt _ (by omega)).trans f0, (h.cellAt _ (by omega)).trans f1, (h.cellAt _ (by omega)).trans f2⟩
end Go.Proofs.YtgelggdgbmldiaaDoor

namespace Go.Proofs.YtgelggdgbmldiaaDoor
open Go.RowKit Go.Shelf
set_option linter.unusedVariables false
set_option linter.unusedSimpArgs false
theorem empty_iff (s : ByteArray) : (s.toList == ([] : List UInt8)) = decide (s.size = 0) := by
  rw [word_beq, Bool.eq_iff_iff]
  simp only [decide_eq_true_eq]
  rw [← len_size, List.length_eq_zero_iff]
theorem ext_one (s : ByteArray) (k : Nat) (h : k < s.size) : (s.extract k (k + 1)).data.toList = [s[k]] := by
  have h2 := at_byte s k h
  obtain ⟨h3, h4⟩ := List.getElem?_eq_some_iff.1 h2
  have : (s.extract k (k + 1)).data.toList = (s.data.toList.drop k).take 1 := by simp
  rw [this, List.drop_eq_getElem_cons h3, List.take_succ_cons, h4]
  rfl
end Go.Proofs.YtgelggdgbmldiaaDoor

namespace Go.Proofs.YtgelggdgbmldiaaDoor
open Go Go.RowKit Go.Shelf
set_option linter.unusedVariables false
set_option linter.unusedSimpArgs false
/-- A node, and where the row of those below it lies. -/
structure NM where
  d : Nd
  a : Option Addr
  c : Nat
def NM.cells (x : NM) : List Value := [.int .i64 x.d.k, .int .i64 x.d.ln, .int .i64 x.d.n, .string (ofL x.d.s), .slice x.a x.d.l.length x.c]
def flatN (L : List NM) : List Value := L.flatMap NM.cells
theorem flatN_cons (a : NM) (L : List NM) : flatN (a :: L) = a.cells ++ flatN L := by simp [flatN]
theorem flatN_append (L M : List NM) : flatN (L ++ M) = flatN L ++ flatN M := by simp [flatN]
theorem flatN_one (x : NM) : flatN [x] = x.cells := by simp [flatN]
theorem NM.one (x : NM) : ∀ u ∈ x.cells, u.oneCell' = true := by
  intro u hu
  simp only [NM.cells, List.mem_cons, List.not_mem_nil, or_false] at hu
  rcases hu with rfl | rfl | rfl | rfl | rfl <;> rfl
/-- A row of numbers, where it lies. -/
def RdI (w : World) (a : Option Addr) (l : List Int) : Prop := 0 < l.length → ∃ b off, a = some ⟨b, off, none⟩ ∧ ∀ k, k < l.length → w.cell? ⟨b, off + k, none⟩ = some (.int .i64 (l.getD k 0))
theorem RdI.keep {w w' : World} {R : Nat → Prop} {a : Option Addr} {l : List Int} (h : RdI w a l) (hk : Keeps R w w') (hr : 0 < l.length → ∀ b off, a = some ⟨b, off, none⟩ → ¬ R b) : RdI w' a l := fun h0 => by
  obtain ⟨b, off, e, hc⟩ := h h0
  have hb : b < w.heap.size := cell_ltk (hc 0 h0)
  exact ⟨b, off, e, fun k hk2 => (hk.cell hb (hr h0 b off e)).trans (hc k hk2)⟩
theorem RdI.lt {w : World} {a : Option Addr} {l : List Int} (h : RdI w a l) (h0 : 0 < l.length) {b off : Nat} (e : a = some ⟨b, off, none⟩) : b < w.heap.size := by
  obtain ⟨b', off', e', hc⟩ := h h0
  rw [e] at e'
  cases e'
  exact cell_ltk (hc 0 h0)
theorem RdT.keepR {w w' : World} {R : Nat → Prop} {A : Option Addr} {L : List Tok} (h : RdT w A L) (hk : Keeps R w w') (hr : 0 < L.length → ∀ b off, A = some ⟨b, off, none⟩ → ¬ R b) : RdT w' A L := fun h0 => by
  obtain ⟨b, off, e, hc⟩ := h h0
  have hb : b < w.heap.size := cell_ltk (hc 0 h0).1
  have hn := hr h0 b off e
  refine ⟨b, off, e, fun k hk2 => ?_⟩
  obtain ⟨c0, c1, c2⟩ := hc k hk2
  exact ⟨(hk.cell hb hn).trans c0, (hk.cell hb hn).trans c1, (hk.cell hb hn).trans c2⟩
/-- Tokens as a lexer tells them: the last one is the end, and no other. -/
structure TokOK (T : List Tok) : Prop where
  ne : 0 < T.length
  le : T.length ≤ 1000
  last : (T.getD (T.length - 1) default).k = 0
  inner : ∀ i, i < T.length - 1 → (T.getD i default).k ≠ 0
  num : ∀ i, i < T.length → (T.getD i default).k = 1 → (T.getD i default).x ≠ [] ∧ (∀ c ∈ (T.getD i default).x, dig c = true) ∧ numV (T.getD i default).x ≤ 9223372036854775807
  long : ∀ i, i < T.length → (T.getD i default).x.length ≤ 1000
  pos : ∀ i, i < T.length → (T.getD i default).p ≤ 1000
/-- What a call may do: it writes in R alone, and what is its own behind it was so ahead of it, or is new. -/
def Fr (R : Nat → Prop) (w : World) (R' : Nat → Prop) (w' : World) : Prop := Keeps R w w' ∧ ∀ b, b < w.heap.size → R' b → R b
theorem Fr.refl (R : Nat → Prop) (w : World) : Fr R w R w := ⟨Keeps.refl _ _, fun _ _ h => h⟩
theorem Fr.trans {R R1 R2 : Nat → Prop} {w w1 w2 : World} (h : Fr R w R1 w1) (k : Fr R1 w1 R2 w2) : Fr R w R2 w2 :=
  ⟨h.1.trans k.1 (fun x hx hr => h.2 x hx hr), fun b hb hr => h.2 b hb (k.2 b (Nat.lt_of_lt_of_le hb h.1.size) hr)⟩
theorem Fr.keeps {R R1 : Nat → Prop} {w w1 w2 : World} (h : Fr R w R1 w1) (k : Keeps (fun _ => False) w1 w2) : Fr R w R1 w2 :=
  ⟨h.1.trans k (fun _ _ h => h.elim), h.2⟩
theorem Fr.local {R R1 : Nat → Prop} {w w1 : World} (h : Fr R w R1 w1) {X : Nat} (hX : w.heap.size ≤ X) (k : Nat) (u : Value) : Fr R w R1 (w1.setCell ⟨X, k, none⟩ u) :=
  ⟨h.1.setCell (p := ⟨X, k, none⟩) (fun hb => absurd (show X < w.heap.size from hb) (by omega)) u, h.2⟩
/-- A block of the call's own. -/
structure Loc (w : World) (R : Nat → Prop) (X : Nat) (vs : List Value) : Prop where
  lt : X < w.heap.size
  out : ¬ R X
  cells : ∀ k u, vs[k]? = some u → w.cell? ⟨X, k, none⟩ = some u
  fz : ∀ k, w.frozen? ⟨X, k, none⟩ = false
theorem Loc.keep {w w' : World} {R R' : Nat → Prop} {X : Nat} {vs : List Value} (h : Loc w R X vs) (f : Fr R w R' w') : Loc w' R' X vs :=
  ⟨Nat.lt_of_lt_of_le h.lt f.1.size, fun hr => h.out (f.2 X h.lt hr), fun k u hu => (f.1.cell h.lt h.out).trans (h.cells k u hu), fun k => (f.1.frozen h.lt h.out).trans (h.fz k)⟩
theorem Loc.keeps {w w' : World} {R : Nat → Prop} {X : Nat} {vs : List Value} (h : Loc w R X vs) (f : Keeps (fun _ => False) w w') : Loc w' R X vs :=
  h.keep ((Fr.refl R w).keeps f)
theorem Loc.new {w : World} {R : Nat → Prop} (hR : ¬ R w.heap.size) (vs : List Value) (t : TypeId) : Loc (w.alloc (.cells vs.toArray t)) R w.heap.size vs :=
  ⟨by simp, hR, fun k u hu => by rw [World.cell?_alloc_mark]; simpa using hu, fun k => by rw [World.frozen?_alloc_mark]; simp⟩
theorem Keeps.one (w : World) (o : Obj) : Keeps (fun _ => False) w (w.alloc o) := (Keeps.refl _ _).alloc _
end Go.Proofs.YtgelggdgbmldiaaDoor

namespace Go.Proofs.YtgelggdgbmldiaaDoor
open Go Go.RowKit Go.Shelf
set_option linter.unusedVariables false
set_option linter.unusedSimpArgs false
theorem results_cell1 {fn : Func} {p : Tmp} {ty : TypeId} (h : fn.results = #[.cell p ty]) (tmps : Array Value) (P : Program) (w : World) :
    (results fn tmps).run P w = ((asAddr (tmps.getD p undef)).run P w).andThen fun a w₁ => (loadVar ty a).run P w₁ := by
  simp only [results, h]
  simp [Sem.run_bind, Result.andThen]
end Go.Proofs.YtgelggdgbmldiaaDoor

namespace Go.Proofs.YtgelggdgbmldiaaDoor
open Go Go.RowKit Go.Shelf
set_option linter.unusedVariables false
set_option linter.unusedSimpArgs false

shelf_lay Lays.n110 Nm 110 at Tryd as laysContains
theorem list_beq (a b : ByteArray) : decide (a = b) = decide (a.data.toList = b.data.toList) := by
  by_cases h : a = b
  · rw [h]; simp
  · rw [decide_eq_false h, decide_eq_false (fun e => h (bytes_ext e))]
end Go.Proofs.YtgelggdgbmldiaaDoor

namespace Go.Proofs.YtgelggdgbmldiaaDoor
open Go Go.RowKit Go.Shelf
set_option linter.unusedVariables false
set_option linter.unusedSimpArgs false
theorem info_node : (Tryd.prog.info? 33).map (fun i => (i.zero, i.size, i.bytes)) = some (some (.agg #[.int .i64 0, .int .i64 0, .int .i64 0, .string ⟨#[]⟩, .slice none 0 0]), 5, 64) := by kernel_rfl
theorem news5 {w : World} (x : NM) (t : TypeId) : ∀ j u, x.cells[j]? = some u → (w.alloc (.cells x.cells.toArray t)).cell? ((⟨w.heap.size, 0, none⟩ : Addr).add j) = some u := by
  intro j u h
  have e : (⟨w.heap.size, 0, none⟩ : Addr).add j = ⟨w.heap.size, j, none⟩ := by unfold Addr.add; split <;> simp_all
  rw [e, World.cell?_alloc_mark]
  simpa using h
end Go.Proofs.YtgelggdgbmldiaaDoor

namespace Go.Proofs.YtgelggdgbmldiaaDoor
open Go Go.RowKit Go.Shelf
set_option linter.unusedVariables false
set_option linter.unusedSimpArgs false
theorem ask_out {α β : Type} {f : PS → α} {g : α → PM β} {s : PS} {r : β × PS} (h : (ask f >>= g) s = some r) : ∃ a, a = f s ∧ g a s = some r := ⟨f s, rfl, h⟩
theorem mod_out {β : Type} {f : PS → PS} {g : Unit → PM β} {s : PS} {r : β × PS} (h : (mod f >>= g) s = some r) : ∃ s1, s1 = f s ∧ g () s1 = some r := ⟨f s, rfl, h⟩
theorem node_out {n : Nd} {l : List Int} {s s' : PS} {r : Int} (h : nodeM n l s = some (r, s')) : s.nd.length < 100000 ∧ r = (s.nd.length : Int) ∧ s' = { s with nd := s.nd ++ [{ n with l := l }] } := by
  unfold nodeM at h
  split at h
  · rename_i hl
    injection h with h
    injection h with h1 h2
    exact ⟨hl, h1.symm, h2.symm⟩
  · cases h
theorem deep_out {d : Int} {s s' : PS} {u : Unit} (h : deepS d s = some (u, s')) : (-1000000 < s.dp ∧ s.dp < 1000000) ∧ s' = { s with dp := s.dp + d } := by
  unfold deepS at h
  split at h
  · rename_i hl
    injection h with h
    injection h with h1 h2
    exact ⟨hl, h2.symm⟩
  · cases h
theorem Loc.set {w : World} {R : Nat → Prop} {X : Nat} {vs : List Value} (h : Loc w R X vs) (j : Nat) (u : Value) (hj : j < vs.length) : Loc (w.setCell ⟨X, j, none⟩ u) R X (vs.set j u) := by
  refine ⟨by simpa using h.lt, h.out, fun k v hv => ?_, fun k => (World.frozen?_setCell w _ _ _).trans (h.fz k)⟩
  by_cases e : j = k
  · subst e
    rw [List.getElem?_set_self hj] at hv
    cases hv
    exact cell_same w X j u _ (h.cells j vs[j] (List.getElem?_eq_getElem hj))
  · rw [List.getElem?_set_ne e] at hv
    exact (cell_other w j k u (.inl e)).trans (h.cells k v hv)
end Go.Proofs.YtgelggdgbmldiaaDoor

namespace Go.Proofs.YtgelggdgbmldiaaDoor
open Go Go.RowKit Go.Shelf
set_option linter.unusedVariables false
set_option linter.unusedSimpArgs false
def valI (l : List Int) : List Value := l.map (fun x => .int .i64 x)
theorem valI_append (l m : List Int) : valI (l ++ m) = valI l ++ valI m := by simp [valI]
theorem valI_at (l : List Int) (k : Nat) (h : k < l.length) : (valI l)[k]? = some (.int .i64 (l.getD k 0)) := by
  unfold valI
  rw [List.getElem?_map, List.getElem?_eq_getElem h]
  simp [List.getD, List.getElem?_eq_getElem h]
theorem valI_one (l : List Int) : ∀ u ∈ valI l, u.oneCell' = true := by
  intro u hu
  obtain ⟨x, _, rfl⟩ := List.mem_map.1 hu
  rfl
theorem info_int : (Tryd.prog.info? 3).map (fun i => (i.zero, i.size, i.bytes)) = some (some (.int .i64 0), 1, 8) := by kernel_rfl
theorem own_rdI {w : World} {A : Option Addr} {n c : Nat} {l : List Int} (h : w.ownsRow 0 3 1 (.slice A n c) n (valI l)) (hn : n = l.length) : RdI w A l := fun h0 => by
  rcases h.2 with ⟨e1, h1⟩ | ⟨g, cap, cur, e1, _⟩
  · omega
  · have e2 : A = some ⟨g, 0, none⟩ := by injection e1
    subst e2
    refine ⟨g, 0, rfl, fun k hk => ?_⟩
    rw [Nat.zero_add]
    exact (h.cellAt k (by omega)).trans (valI_at l k hk)
theorem newsI {w : World} (z : Int) (t : TypeId) : ∀ j u, (valI [z])[j]? = some u → (w.alloc (.cells #[.int .i64 z] t)).cell? ((⟨w.heap.size, 0, none⟩ : Addr).add j) = some u := by
  intro j u h
  have e : (⟨w.heap.size, 0, none⟩ : Addr).add j = ⟨w.heap.size, j, none⟩ := by unfold Addr.add; split <;> simp_all
  rw [e, World.cell?_alloc_mark]
  match j, h with
  | 0, h => simpa [valI] using h
/-- What goes below a node: a row that is not the parser's. -/
def NewRow (P : Nat) (R : Nat → Prop) (a : Option Addr) (l : List Int) : Prop := 0 < l.length → ∃ X off, a = some ⟨X, off, none⟩ ∧ ¬ R X ∧ P < X
section
variable {P : Nat} {src : ByteArray} {T : List Tok} {f : Nat} {mm : Nd → List Int → PM Int} {R : Nat → Prop} {s s' : PS} {w : World} {r : Int}
end
theorem own_keep {w w' : World} {R R' : Nat → Prop} {v : Value} {n : Nat} {xs : List Value} (h : w.ownsRow 0 3 1 v n xs) (f : Fr R w R' w') {B : Nat} (hb : ∀ g, v.ownBlock = some g → ¬ R g ∧ B ≤ g) :
    w'.ownsRow 0 3 1 v n xs ∧ ∀ g, v.ownBlock = some g → ¬ R' g ∧ B ≤ g :=
  ⟨ownsRow_keep h (fun g hg => f.1.block g (own_ltk h hg) (hb g hg).1), fun g hg => ⟨fun hr => (hb g hg).1 (f.2 g (own_ltk h hg) hr), (hb g hg).2⟩⟩
theorem Loc.keepsR {w w' : World} {R : Nat → Prop} {X : Nat} {vs : List Value} (h : Loc w R X vs) {S : Nat → Prop} (k : Keeps S w w') (hX : ¬ S X) : Loc w' R X vs :=
  ⟨Nat.lt_of_lt_of_le h.lt k.size, h.out, fun j u hu => (k.cell h.lt hX).trans (h.cells j u hu), fun j => (k.frozen h.lt hX).trans (h.fz j)⟩
end Go.Proofs.YtgelggdgbmldiaaDoor

namespace Go.Proofs.YtgelggdgbmldiaaDoor
open Go Go.RowKit Go.Shelf
set_option linter.unusedVariables false
set_option linter.unusedSimpArgs false
theorem pure_end {α : Type} {a r : α} {s s' : PS} (h : (pure a : PM α) s = some (r, s')) : r = a ∧ s' = s := by
  have := pure_out h
  injection this with h1 h2
  exact ⟨h1, h2⟩
end Go.Proofs.YtgelggdgbmldiaaDoor
