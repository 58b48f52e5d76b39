/-
 What stays in memory; append of elements of many cells. Written by an AI agent.
 Layer 1: the contracts of digit, letter, blank, and of how many bytes are of a kind. Written by an AI agent.
 Layer 1: the contract of run: how many bytes at the beginning are of a kind. Written by an AI agent.
-/
import Derived.Test.YtbhpnioggpgbhaaGreatDoorChecked
import Derived.Laws.OwnMore
import Derived.Laws.AppendOwnNone
import Derived.OwnWalk
import Derived.Lib.AppendZerosOnto
import Derived.Below
import Derived.Stop.Walk2
import Derived.WalkKit
import Derived.WalkLawsBesides
import Derived.WalkSpells
import Derived.Outline
import Derived.BigQuiet
import Derived.Deep.CutBlock
import Derived.Deep.CutRange
import Derived.Deep.DeepCutAuto
import Derived.Deep.RegionHeld3
import Derived.Deep.RegionLaw
import Derived.Deep.RegionWith
import Derived.StillTailTactics
import Derived.RegionTactic
import Derived.Laws.StructEq
import Derived.Lib.Hide
import Derived.Shelf.Abstract
import Derived.Test.YtbhpnioggpgbhaaGreatDoorMcab
namespace Go.Proofs.YtbhpnioggpgbhaaGreatDoor
open Go.RowKit
set_option linter.unusedVariables false
set_option linter.unusedSimpArgs false
/-- Only blocks of S may have changed; what is new stands behind. -/
structure Keeps (S : Nat → Prop) (w w' : World) : Prop where
 os : w'.os = w.os
 tape : w'.tape = w.tape
 output : w'.output = w.output
 size : w.heap.size ≤ w'.heap.size
 block : ∀ k, k < w.heap.size → ¬ S k → w'.heap[k]? = w.heap[k]?
theorem Keeps.refl (S : Nat → Prop) (w : World) : Keeps S w w := ⟨rfl, rfl, rfl, Nat.le_refl _, fun _ _ _ => rfl⟩
theorem Keeps.mono {S T : Nat → Prop} {w w' : World} (h : Keeps S w w') (hs : ∀ k, k < w.heap.size → S k → T k) : Keeps T w w' :=
 ⟨h.os, h.tape, h.output, h.size, fun k hk hn => h.block k hk fun hs' => hn (hs k hk hs')⟩
theorem Keeps.trans {S T : Nat → Prop} {a b c : World} (h : Keeps S a b) (k : Keeps T b c) (hs : ∀ x, x < a.heap.size → T x → S x) : Keeps S a c :=
 ⟨k.os.trans h.os, k.tape.trans h.tape, k.output.trans h.output, Nat.le_trans h.size k.size,
  fun x hx hn => (k.block x (Nat.lt_of_lt_of_le hx h.size) fun ht => hn (hs x hx ht)).trans (h.block x hx hn)⟩
theorem Keeps.drew {S : Nat → Prop} {a w : World} (h : Keeps S a w) : Keeps S a w.drew := ⟨h.os, h.tape, h.output, h.size, h.block⟩
theorem Keeps.alloc {S : Nat → Prop} {a w : World} (h : Keeps S a w) (o : Obj) : Keeps S a (w.alloc o) :=
 h.trans (T := S) ⟨rfl, rfl, rfl, by simp, fun k hk _ => Below.heap_alloc w o k hk⟩ (fun _ _ h => h)
theorem Keeps.setCell {S : Nat → Prop} {a w : World} (h : Keeps S a w) {p : Addr} (hp : p.block < a.heap.size → S p.block) (u : Value) : Keeps S a (w.setCell p u) :=
 ⟨h.os, h.tape, h.output, by simpa using h.size, fun k hk hn => (Below.heap_setCell w p u k (fun e => hn (by subst e; exact hp hk))).trans (h.block k hk hn)⟩
theorem Keeps.grown {S : Nat → Prop} {a w w' : World} {row : Option Nat} (h : Keeps S a w) (hg : w.grownBy w' row) (hr : ∀ k, row = some k → k < a.heap.size → S k) : Keeps S a w' :=
 ⟨hg.os.trans h.os, hg.tape.trans h.tape, hg.output.trans h.output, Nat.le_trans h.size hg.size,
  fun k hk hn => (hg.block k (Nat.lt_of_lt_of_le hk h.size) fun e => hn (hr k e.symm hk)).trans (h.block k hk hn)⟩
theorem Keeps.ofBelow {S : Nat → Prop} {w w' : World} (h : Below w.heap.size w w') : Keeps S w w' := ⟨h.os, h.tape, h.output, h.size, fun k hk _ => h.block k hk⟩
theorem Keeps.toBelow {S : Nat → Prop} {B : Nat} {w w' : World} (h : Keeps S w w') (hB : B ≤ w.heap.size) (hs : ∀ k, S k → B ≤ k) : Below B w w' :=
 ⟨h.os, h.tape, h.output, h.size, fun k hk => h.block k (Nat.lt_of_lt_of_le hk hB) fun hS => absurd (hs k hS) (by omega)⟩
theorem Keeps.cell {S : Nat → Prop} {w w' : World} (h : Keeps S w w') {b o : Nat} (hb : b < w.heap.size) (hn : ¬ S b) : w'.cell? ⟨b, o, none⟩ = w.cell? ⟨b, o, none⟩ :=
 World.cell?_of_block (w := w) (h.block b hb hn)
theorem Keeps.frozen {S : Nat → Prop} {w w' : World} (h : Keeps S w w') {b o : Nat} (hb : b < w.heap.size) (hn : ¬ S b) : w'.frozen? ⟨b, o, none⟩ = w.frozen? ⟨b, o, none⟩ :=
 World.frozen?_of_block (w := w) (h.block b hb hn)
/-- A row of the call's own stays so, if its block is kept. -/
theorem ownsRow_keep {w w' : World} {base e size : Nat} {v : Value} {n : Nat} {xs : List Value} (h : w.ownsRow base e size v n xs) (hk : ∀ k, v.ownBlock = some k → w'.heap[k]? = w.heap[k]?) :
  w'.ownsRow base e size v n xs := by
 refine ⟨h.1, ?_⟩
 rcases h.2 with h0 | ⟨g, cap, cur, rfl, hb, hg, r⟩
 ·exact .inl h0
 ·exact .inr ⟨g, cap, cur, rfl, hb, (hk g rfl).trans hg, r⟩
theorem own_ltk {w : World} {base e size : Nat} {v : Value} {n : Nat} {xs : List Value} (h : w.ownsRow base e size v n xs) {k : Nat} (hk : v.ownBlock = some k) : k < w.heap.size := (h.lt k hk).2
theorem own_formk {w : World} {b e size : Nat} {v : Value} {n : Nat} {xs : List Value} (h : w.ownsRow b e size v n xs) : ∃ A c, v = .slice A n c := by
 rcases h.2 with ⟨e1, h0⟩ | ⟨g, cap, cur, e1, _⟩
 ·exact ⟨none, 0, by rw [e1, h0]⟩
 ·exact ⟨_, cap, e1⟩
theorem cell_ltk {w : World} {b o : Nat} {v : Value} (h : w.cell? ⟨b, o, none⟩ = some v) : b < w.heap.size := by
 rcases Nat.lt_or_ge b w.heap.size with h1 | h1
 ·exact h1
 ·have e : w.heap[b]? = none := Array.getElem?_eq_none h1
  unfold World.cell? at h
  simp [e] at h
theorem drew_keeps (w : World) (n : Nat) : Keeps (fun _ => False) w (w.drewN n) := ⟨rfl, rfl, rfl, Nat.le_refl _, fun _ _ _ => rfl⟩
/-- 'append' of elements of many cells onto a row of the call's own, and where the new row lies. -/
theorem run_append_atk {P : Program} (w : World) (base : Nat) (t ty e : TypeId) (i : TypeInfo) (z : Value) (size bytes : Nat) (ht : P.underlying t = some (.slice e)) (hi : P.info? e = some i) (hz : i.zero = some z)
  (hsize : i.size = size) (hby : i.bytes = bytes) (hzs : z.cells.size = size) (hsz : 0 < size)
  (v : Value) (n : Nat) (xs : List Value) (hown : w.ownsRow base e size v n xs)
  (a : Addr) (m c : Nat) (news : List Value) (hl : news.length = m * size) (hnews : ∀ j u, news[j]? = some u → w.cell? (a.add j) = some u) (h1 : ∀ u ∈ news, u.oneCell' = true)
  (h63 : n + m ≤ maxLen) (hbytes : (n + m) * bytes ≤ 140737488355328) (hbase : base ≤ w.heap.size) :
  ∃ v' w', (Builtin.append_ #[t, t] ty #[v, .slice (some a) m c]).run P w = .ok v' w' ∧ w'.ownsRow base e size v' (n + m) (xs ++ news) ∧ w.grownBy w' v.ownBlock ∧
   (v'.ownBlock = v.ownBlock ∨ v'.ownBlock = some w.heap.size) := by
 have hmi : news.length = m * i.size := by rw [hsize]; exact hl
 obtain ⟨v', w', hr, ho, hg, hn⟩ := run_append_own (P := P) (w := w) base t ty e i z size bytes ht hi hz hsize hby hzs hsz v n xs hown a m c news hl hnews h1 h63 hbytes hbase
 refine ⟨v', w', hr, ho, hg, ?_⟩
 have h63' : n + m ≤ 9223372036854775807 := by simp only [maxLen] at h63; omega
 rcases hown.2 with ⟨rfl, rfl⟩ | ⟨g, cap, cur, rfl, hbg, hgg, hnc, hcm, hcs, htake⟩
 ·by_cases hm : m = 0
  ·left
   rw [hn.2 ⟨rfl, hm⟩]
  ·right
   rw [run_append_nil (P := P) w t ty e i z ht hi hz a m c news hmi hnews (by omega) (by omega) (by rw [hby]; simp only [Nat.zero_add] at hbytes; omega)] at hr
   cases hr
   rfl
 ·by_cases hroom : n + m ≤ cap
  ·left
   rw [run_append_room (P := P) w t ty e i ht hi g n cap cur hgg a m c news hmi hnews h1 hroom (by rw [hsize, hcs, hl, ← Nat.add_mul]; exact Nat.mul_le_mul_right _ hroom)] at hr
   cases hr
   rfl
  ·right
   have holds : ∀ j u, xs[j]? = some u → w.cell? ((⟨g, 0, none⟩ : Addr).add j) = some u := hown.cells (g := g) rfl
   rw [run_append_grow (P := P) w t ty e i z ht hi hz ⟨g, 0, none⟩ n cap xs (by rw [hsize]; exact hown.1) holds a m c news hmi hnews (by omega) (by omega) (growslice_fits (by omega) (by rw [hby]; exact hbytes))] at hr
   cases hr
   rfl
theorem wpList_append_atk {P : Program} {w : World} {ops : Array Oper} {rest : List Oper} {o : Oper} {a : Act} {Q : Exit → Act → World → Prop} (hgd : o.guard = none) (s x : Operand) (t : TypeId)
  (ho : o.op = .call { callee := .builtin .append, args := #[s, x], argTypes := #[t, t] })
  (base : Nat) (e : TypeId) (i : TypeInfo) (z : Value) (size bytes : Nat) (ht : P.underlying t = some (.slice e)) (hi : P.info? e = some i) (hz : i.zero = some z)
  (hsize : i.size = size) (hby : i.bytes = bytes) (hzs : z.cells.size = size) (hsz : 0 < size)
  (v : Value) (n : Nat) (xs : List Value) (hs : a.eval s = v) (hown : w.ownsRow base e size v n xs)
  (ad : Addr) (m c : Nat) (news : List Value) (hx : a.eval x = .slice (some ad) m c) (hl : news.length = m * size) (hnews : ∀ j u, news[j]? = some u → w.cell? (ad.add j) = some u) (h1 : ∀ u ∈ news, u.oneCell' = true)
  (h63 : n + m ≤ 1000000) (hby2 : bytes ≤ 64) (hbase : base ≤ w.heap.size)
  (h : ∀ v' w', w'.ownsRow base e size v' (n + m) (xs ++ news) → w.grownBy w' v.ownBlock → (v'.ownBlock = v.ownBlock ∨ v'.ownBlock = some w.heap.size) → wpList P ops Q rest (a.put o.dst v') w') :
  wpList P ops Q (o :: rest) a w := by
 have hb : (n + m) * bytes ≤ 140737488355328 := Nat.le_trans (Nat.mul_le_mul h63 hby2) (by omega)
 obtain ⟨v', w', hrun, q1, q2, q3⟩ := run_append_atk (P := P) w base t o.type e i z size bytes ht hi hz hsize hby hzs hsz v n xs hown ad m c news hl hnews h1 (by unfold maxLen; omega) hb hbase
 exact Lib.wpList_append_run w hgd s x t t ho v _ hs hx v' w' hrun (h v' w' q1 q2 q3)
end Go.Proofs.YtbhpnioggpgbhaaGreatDoor

namespace Go.Proofs.YtbhpnioggpgbhaaGreatDoor
open Go.RowKit
set_option linter.unusedVariables false
set_option linter.unusedSimpArgs false
theorem u8_lt (c : UInt8) : c.toNat < 256 := c.toNat_lt
/-- A function that tells of each byte whether it is of a kind. -/
def Tells (f : Nat) (p : UInt8 → Bool) : Prop := ∀ (w : World) (c : UInt8), Calls Tryz.prog f #[.int .u8 (c.toNat : Int)] w fun e w' => e = .returned (.bool (p c)) ∧ Keeps (fun _ => False) w w'
set_option maxHeartbeats 1000000 in
theorem tells_dig : Tells 84 dig := fun w c => by
 have hc := u8_lt c
 by_cases h0 : 48 ≤ c.toNat
 ·by_cases h1 : c.toNat ≤ 57
  ·have hv : dig c = true := by unfold dig; simp only [Bool.and_eq_true, Bool.or_eq_true, decide_eq_true_eq, Bool.not_eq_true', decide_eq_false_iff_not]; omega
   rw [hv]
   clear hv
   generalize c.toNat = n at *
   have e0 : (48 : Int) ≤ (n : Int) := by omega
   have f0 : decide ((48 : Int) ≤ (n : Int)) = true := decide_eq_true e0
   have e1 : (n : Int) ≤ 57 := by omega
   have f1 : decide ((n : Int) ≤ 57) = true := decide_eq_true e1
   go_enter Tryz.func84, Tryz.ntmps84
   go_wp2
   go_ret
   exact ⟨rfl, Keeps.refl _ _⟩
  ·have hv : dig c = false := Bool.eq_false_iff.2 (fun h => by unfold dig at h; simp only [Bool.and_eq_true, Bool.or_eq_true, decide_eq_true_eq, Bool.not_eq_true', decide_eq_false_iff_not] at h; omega)
   rw [hv]
   clear hv
   generalize c.toNat = n at *
   have e0 : (48 : Int) ≤ (n : Int) := by omega
   have f0 : decide ((48 : Int) ≤ (n : Int)) = true := decide_eq_true e0
   have e1 : ¬ (n : Int) ≤ 57 := by omega
   have f1 : decide ((n : Int) ≤ 57) = false := decide_eq_false e1
   go_enter Tryz.func84, Tryz.ntmps84
   go_wp2
   go_ret
   exact ⟨rfl, Keeps.refl _ _⟩
 ·have hv : dig c = false := Bool.eq_false_iff.2 (fun h => by unfold dig at h; simp only [Bool.and_eq_true, Bool.or_eq_true, decide_eq_true_eq, Bool.not_eq_true', decide_eq_false_iff_not] at h; omega)
  rw [hv]
  clear hv
  generalize c.toNat = n at *
  have e0 : ¬ (48 : Int) ≤ (n : Int) := by omega
  have f0 : decide ((48 : Int) ≤ (n : Int)) = false := decide_eq_false e0
  go_enter Tryz.func84, Tryz.ntmps84
  go_wp2
  go_ret
  exact ⟨rfl, Keeps.refl _ _⟩
set_option maxHeartbeats 1000000 in
theorem tells_ltr : Tells 86 ltr := fun w c => by
 have hc := u8_lt c
 by_cases h0 : 97 ≤ c.toNat
 ·by_cases h1 : c.toNat ≤ 122
  ·have hv : ltr c = true := by unfold ltr; simp only [Bool.and_eq_true, Bool.or_eq_true, decide_eq_true_eq, Bool.not_eq_true', decide_eq_false_iff_not]; omega
   rw [hv]
   clear hv
   generalize c.toNat = n at *
   have e0 : (97 : Int) ≤ (n : Int) := by omega
   have f0 : decide ((97 : Int) ≤ (n : Int)) = true := decide_eq_true e0
   have e1 : (n : Int) ≤ 122 := by omega
   have f1 : decide ((n : Int) ≤ 122) = true := decide_eq_true e1
   go_enter Tryz.func86, Tryz.ntmps86
   go_wp2
   go_ret
   exact ⟨rfl, Keeps.refl _ _⟩
  ·by_cases h2 : 65 ≤ c.toNat
   ·by_cases h3 : c.toNat ≤ 90
    ·exfalso; omega
    ·have hv : ltr c = false := Bool.eq_false_iff.2 (fun h => by unfold ltr at h; simp only [Bool.and_eq_true, Bool.or_eq_true, decide_eq_true_eq, Bool.not_eq_true', decide_eq_false_iff_not] at h; omega)
     rw [hv]
     clear hv
     generalize c.toNat = n at *
     have e0 : (97 : Int) ≤ (n : Int) := by omega
     have f0 : decide ((97 : Int) ≤ (n : Int)) = true := decide_eq_true e0
     have e1 : ¬ (n : Int) ≤ 122 := by omega
     have f1 : decide ((n : Int) ≤ 122) = false := decide_eq_false e1
     have e2 : (65 : Int) ≤ (n : Int) := by omega
     have f2 : decide ((65 : Int) ≤ (n : Int)) = true := decide_eq_true e2
     have e3 : ¬ (n : Int) ≤ 90 := by omega
     have f3 : decide ((n : Int) ≤ 90) = false := decide_eq_false e3
     go_enter Tryz.func86, Tryz.ntmps86
     go_wp2
     go_ret
     exact ⟨rfl, Keeps.refl _ _⟩
   ·exfalso; omega
 ·by_cases h1 : 65 ≤ c.toNat
  ·by_cases h2 : c.toNat ≤ 90
   ·have hv : ltr c = true := by unfold ltr; simp only [Bool.and_eq_true, Bool.or_eq_true, decide_eq_true_eq, Bool.not_eq_true', decide_eq_false_iff_not]; omega
    rw [hv]
    clear hv
    generalize c.toNat = n at *
    have e0 : ¬ (97 : Int) ≤ (n : Int) := by omega
    have f0 : decide ((97 : Int) ≤ (n : Int)) = false := decide_eq_false e0
    have e1 : (65 : Int) ≤ (n : Int) := by omega
    have f1 : decide ((65 : Int) ≤ (n : Int)) = true := decide_eq_true e1
    have e2 : (n : Int) ≤ 90 := by omega
    have f2 : decide ((n : Int) ≤ 90) = true := decide_eq_true e2
    go_enter Tryz.func86, Tryz.ntmps86
    go_wp2
    go_ret
    exact ⟨rfl, Keeps.refl _ _⟩
   ·have hv : ltr c = false := Bool.eq_false_iff.2 (fun h => by unfold ltr at h; simp only [Bool.and_eq_true, Bool.or_eq_true, decide_eq_true_eq, Bool.not_eq_true', decide_eq_false_iff_not] at h; omega)
    rw [hv]
    clear hv
    generalize c.toNat = n at *
    have e0 : ¬ (97 : Int) ≤ (n : Int) := by omega
    have f0 : decide ((97 : Int) ≤ (n : Int)) = false := decide_eq_false e0
    have e1 : (65 : Int) ≤ (n : Int) := by omega
    have f1 : decide ((65 : Int) ≤ (n : Int)) = true := decide_eq_true e1
    have e2 : ¬ (n : Int) ≤ 90 := by omega
    have f2 : decide ((n : Int) ≤ 90) = false := decide_eq_false e2
    go_enter Tryz.func86, Tryz.ntmps86
    go_wp2
    go_ret
    exact ⟨rfl, Keeps.refl _ _⟩
  ·have hv : ltr c = false := Bool.eq_false_iff.2 (fun h => by unfold ltr at h; simp only [Bool.and_eq_true, Bool.or_eq_true, decide_eq_true_eq, Bool.not_eq_true', decide_eq_false_iff_not] at h; omega)
   rw [hv]
   clear hv
   generalize c.toNat = n at *
   have e0 : ¬ (97 : Int) ≤ (n : Int) := by omega
   have f0 : decide ((97 : Int) ≤ (n : Int)) = false := decide_eq_false e0
   have e1 : ¬ (65 : Int) ≤ (n : Int) := by omega
   have f1 : decide ((65 : Int) ≤ (n : Int)) = false := decide_eq_false e1
   go_enter Tryz.func86, Tryz.ntmps86
   go_wp2
   go_ret
   exact ⟨rfl, Keeps.refl _ _⟩
set_option maxHeartbeats 1000000 in
theorem tells_blk : Tells 54 blk := fun w c => by
 have hc := u8_lt c
 by_cases h0 : c.toNat = 32
 ·have hv : blk c = true := by unfold blk; simp only [Bool.and_eq_true, Bool.or_eq_true, decide_eq_true_eq, Bool.not_eq_true', decide_eq_false_iff_not]; omega
  rw [hv]
  clear hv
  generalize c.toNat = n at *
  obtain rfl : n = 32 := by omega
  go_enter Tryz.func54, Tryz.ntmps54
  go_wp2
  go_ret
  exact ⟨rfl, Keeps.refl _ _⟩
 ·by_cases h1 : c.toNat = 9
  ·have hv : blk c = true := by unfold blk; simp only [Bool.and_eq_true, Bool.or_eq_true, decide_eq_true_eq, Bool.not_eq_true', decide_eq_false_iff_not]; omega
   rw [hv]
   clear hv
   generalize c.toNat = n at *
   obtain rfl : n = 9 := by omega
   go_enter Tryz.func54, Tryz.ntmps54
   go_wp2
   go_ret
   exact ⟨rfl, Keeps.refl _ _⟩
  ·by_cases h2 : c.toNat = 13
   ·have hv : blk c = true := by unfold blk; simp only [Bool.and_eq_true, Bool.or_eq_true, decide_eq_true_eq, Bool.not_eq_true', decide_eq_false_iff_not]; omega
    rw [hv]
    clear hv
    generalize c.toNat = n at *
    obtain rfl : n = 13 := by omega
    go_enter Tryz.func54, Tryz.ntmps54
    go_wp2
    go_ret
    exact ⟨rfl, Keeps.refl _ _⟩
   ·by_cases h3 : c.toNat = 10
    ·have hv : blk c = true := by unfold blk; simp only [Bool.and_eq_true, Bool.or_eq_true, decide_eq_true_eq, Bool.not_eq_true', decide_eq_false_iff_not]; omega
     rw [hv]
     clear hv
     generalize c.toNat = n at *
     obtain rfl : n = 10 := by omega
     go_enter Tryz.func54, Tryz.ntmps54
     go_wp2
     go_ret
     exact ⟨rfl, Keeps.refl _ _⟩
    ·have hv : blk c = false := Bool.eq_false_iff.2 (fun h => by unfold blk at h; simp only [Bool.and_eq_true, Bool.or_eq_true, decide_eq_true_eq, Bool.not_eq_true', decide_eq_false_iff_not] at h; omega)
     rw [hv]
     clear hv
     generalize c.toNat = n at *
     have e0 : ((n : Int) == 32) = false := by simp; omega
     have f0 : ((n : Int) != 32) = true := by simp; omega
     have e1 : ((n : Int) == 9) = false := by simp; omega
     have f1 : ((n : Int) != 9) = true := by simp; omega
     have e2 : ((n : Int) == 13) = false := by simp; omega
     have f2 : ((n : Int) != 13) = true := by simp; omega
     have e3 : ((n : Int) == 10) = false := by simp; omega
     have f3 : ((n : Int) != 10) = true := by simp; omega
     go_enter Tryz.func54, Tryz.ntmps54
     go_wp2
     go_ret
     exact ⟨rfl, Keeps.refl _ _⟩
set_option maxHeartbeats 1000000 in
theorem tells_txc : Tells 115 txc := fun w c => by
 have hc := u8_lt c
 by_cases h0 : 32 ≤ c.toNat
 ·by_cases h1 : c.toNat ≤ 126
  ·by_cases h2 : c.toNat = 34
   ·have hv : txc c = false := Bool.eq_false_iff.2 (fun h => by unfold txc at h; simp only [Bool.and_eq_true, Bool.or_eq_true, decide_eq_true_eq, Bool.not_eq_true', decide_eq_false_iff_not] at h; omega)
    rw [hv]
    clear hv
    generalize c.toNat = n at *
    obtain rfl : n = 34 := by omega
    go_enter Tryz.func115, Tryz.ntmps115
    go_wp2
    go_ret
    exact ⟨rfl, Keeps.refl _ _⟩
   ·have hv : txc c = true := by unfold txc; simp only [Bool.and_eq_true, Bool.or_eq_true, decide_eq_true_eq, Bool.not_eq_true', decide_eq_false_iff_not]; omega
    rw [hv]
    clear hv
    generalize c.toNat = n at *
    have e0 : (32 : Int) ≤ (n : Int) := by omega
    have f0 : decide ((32 : Int) ≤ (n : Int)) = true := decide_eq_true e0
    have e1 : (n : Int) ≤ 126 := by omega
    have f1 : decide ((n : Int) ≤ 126) = true := decide_eq_true e1
    have e2 : ((n : Int) == 34) = false := by simp; omega
    have f2 : ((n : Int) != 34) = true := by simp; omega
    go_enter Tryz.func115, Tryz.ntmps115
    go_wp2
    go_ret
    exact ⟨rfl, Keeps.refl _ _⟩
  ·have hv : txc c = false := Bool.eq_false_iff.2 (fun h => by unfold txc at h; simp only [Bool.and_eq_true, Bool.or_eq_true, decide_eq_true_eq, Bool.not_eq_true', decide_eq_false_iff_not] at h; omega)
   rw [hv]
   clear hv
   generalize c.toNat = n at *
   have e0 : (32 : Int) ≤ (n : Int) := by omega
   have f0 : decide ((32 : Int) ≤ (n : Int)) = true := decide_eq_true e0
   have e1 : ¬ (n : Int) ≤ 126 := by omega
   have f1 : decide ((n : Int) ≤ 126) = false := decide_eq_false e1
   go_enter Tryz.func115, Tryz.ntmps115
   go_wp2
   go_ret
   exact ⟨rfl, Keeps.refl _ _⟩
 ·have hv : txc c = false := Bool.eq_false_iff.2 (fun h => by unfold txc at h; simp only [Bool.and_eq_true, Bool.or_eq_true, decide_eq_true_eq, Bool.not_eq_true', decide_eq_false_iff_not] at h; omega)
  rw [hv]
  clear hv
  generalize c.toNat = n at *
  have e0 : ¬ (32 : Int) ≤ (n : Int) := by omega
  have f0 : decide ((32 : Int) ≤ (n : Int)) = false := decide_eq_false e0
  go_enter Tryz.func115, Tryz.ntmps115
  go_wp2
  go_ret
  exact ⟨rfl, Keeps.refl _ _⟩
set_option maxHeartbeats 1000000 in
theorem tells_nmc : Tells 113 nmc := fun w c => by
 have L := Lib.hid (tells_ltr w c)
 cases hl : ltr c with
 | true =>
  have hv : nmc c = true := by unfold nmc; rw [hl]; rfl
  rw [hl] at L
  rw [hv]
  clear hv hl
  generalize c.toNat = n at *
  go_enter Tryz.func113, Tryz.ntmps113
  go_wp2_with fail
  refine L.out.mono ?_
  rintro e w1 ⟨rfl, k1⟩
  have K1 := Lib.hid k1
  clear k1
  go_wp2
  go_ret
  exact ⟨rfl, K1.out⟩
 | false =>
  rw [hl] at L
  have D : Hid (∀ w, Calls Tryz.prog 84 #[.int .u8 (c.toNat : Int)] w fun e w' => e = .returned (.bool (dig c)) ∧ Keeps (fun _ => False) w w') := fun w => tells_dig w c
  cases hd : dig c with
  | true =>
   have hv : nmc c = true := by unfold nmc; rw [hl, hd]; rfl
   rw [hd] at D
   rw [hv]
   clear hv hl hd
   generalize c.toNat = n at *
   go_enter Tryz.func113, Tryz.ntmps113
   go_wp2_with fail
   refine L.out.mono ?_
   rintro e w1 ⟨rfl, k1⟩
   have K1 := Lib.hid k1
   clear k1
   go_wp2_with fail
   refine (D.out w1).mono ?_
   rintro e w2 ⟨rfl, k2⟩
   have K2 := Lib.hid (K1.out.trans k2 (fun _ _ h => h))
   clear k2
   go_wp2
   go_ret
   exact ⟨rfl, K2.out⟩
  | false =>
   rw [hd] at D
   by_cases h95 : c.toNat = 95
   ·have hv : nmc c = true := by unfold nmc; rw [hl, hd, decide_eq_true h95]; rfl
    rw [hv]
    clear hv hl hd
    generalize c.toNat = n at *
    subst h95
    go_enter Tryz.func113, Tryz.ntmps113
    go_wp2_with fail
    refine L.out.mono ?_
    rintro e w1 ⟨rfl, k1⟩
    have K1 := Lib.hid k1
    clear k1
    go_wp2_with fail
    refine (D.out w1).mono ?_
    rintro e w2 ⟨rfl, k2⟩
    have K2 := Lib.hid (K1.out.trans k2 (fun _ _ h => h))
    clear k2
    go_wp2
    go_ret
    exact ⟨rfl, K2.out⟩
   ·have hv : nmc c = false := by unfold nmc; rw [hl, hd, decide_eq_false h95]; rfl
    rw [hv]
    clear hv hl hd
    generalize c.toNat = n at *
    have e95 : ((n : Int) == 95) = false := by simp; omega
    go_enter Tryz.func113, Tryz.ntmps113
    go_wp2_with fail
    refine L.out.mono ?_
    rintro e w1 ⟨rfl, k1⟩
    have K1 := Lib.hid k1
    clear k1
    go_wp2_with fail
    refine (D.out w1).mono ?_
    rintro e w2 ⟨rfl, k2⟩
    have K2 := Lib.hid (K1.out.trans k2 (fun _ _ h => h))
    clear k2
    go_wp2
    go_ret
    exact ⟨rfl, K2.out⟩
end Go.Proofs.YtbhpnioggpgbhaaGreatDoor

namespace Go.Proofs.YtbhpnioggpgbhaaGreatDoor
open Go.RowKit Go.Shelf
set_option linter.unusedVariables false
set_option linter.unusedSimpArgs false
theorem at_byte (s : ByteArray) (k : Nat) (h : k < s.size) : s.data.toList[k]? = some s[k] := by
 have h2 : k < s.data.toList.length := by simpa using h
 rw [List.getElem?_eq_getElem h2]
 rfl
theorem runL_drop (p : UInt8 → Bool) (l : List UInt8) (k : Nat) (h : ∀ c ∈ l.take k, p c = true) (hk : k ≤ l.length) : runL p l = k + runL p (l.drop k) := by
 have e : l = l.take k ++ l.drop k := (List.take_append_drop k l).symm
 have h2 := runL_append p (l.take k) (l.drop k) h
 rw [← e, List.length_take, Nat.min_eq_left hk] at h2
 exact h2
set_option maxRecDepth 100000 in
set_option maxHeartbeats 4000000 in
theorem run_any (f : Nat) (p : UInt8 → Bool) (hf : Tells f p) (eg : ∀ args w, (callFunc f args).run Tryz.prog w = .ok (.enter f args) w) (s : ByteArray) (hs : s.size ≤ 1000) (w : World) :
  Calls Tryz.prog 111 #[.string s, .func (.func f) #[] #[]] w fun e w' => e = .returned (.int .i64 ((runL p s.data.toList : Nat) : Int)) ∧ Keeps (fun _ => False) w w' := by
 obtain ⟨l, hl⟩ : ∃ l : List UInt8, l = s.data.toList := ⟨_, rfl⟩
 obtain ⟨N, hN⟩ : ∃ N : Nat, N = s.size := ⟨_, rfl⟩
 have hlN : l.length = N := by rw [hl, hN]; simp
 have HL := Lib.hid hl
 have HN := Lib.hid hN
 have HLN := Lib.hid hlN
 have HF := Lib.hid hf
 rw [← hl]
 rw [← hN] at hs
 clear hl hlN hf
 go_enter Tryz.func111, Tryz.ntmps111
 go_wp2_with fail
 go_loopw [5] (fun s5 wr => ∃ k : Nat, k ≤ N ∧ s5 = .int .i64 k ∧ (∀ c ∈ l.take k, p c = true) ∧ Keeps (fun _ => False) w wr) (fun s5 _ => N - (intOf s5).toNat)
 case atStart => exact ⟨0, Nat.zero_le _, rfl, fun c h => by simp at h, Keeps.refl _ _⟩
 case round =>
  obtain ⟨k, hk, rfl, hall, kr⟩ := hrel
  have HAll := Lib.hid hall
  have KR := Lib.hid kr
  clear hall kr
  by_cases hkN : k < N
  ·have hkN' : (k : Int) < (N : Int) := by omega
   have hkS' : (k : Int) < (s.size : Int) := by omega
   have hkS : k < s.size := by omega
   have hk0 : (0 : Int) ≤ (k : Int) := by omega
   obtain ⟨c, hc⟩ : ∃ c : UInt8, c = s[k] := ⟨_, rfl⟩
   have hlk : l[k]? = some c := by rw [HL.out, hc]; exact at_byte s k hkS
   have hdrop : l.drop k = c :: l.drop (k + 1) := by
    obtain ⟨h1, h2⟩ := List.getElem?_eq_some_iff.1 hlk
    rw [List.drop_eq_getElem_cons h1, h2]
   have hrun := runL_drop p l k HAll.out (by rw [HLN.out]; omega)
   rw [hdrop] at hrun
   have htk : ∀ (hp : p c = true), ∀ d ∈ l.take (k + 1), p d = true := fun hp d hd => by
    obtain ⟨h1, h2⟩ := List.getElem?_eq_some_iff.1 hlk
    rw [List.take_succ_eq_append_getElem h1, List.mem_append, h2] at hd
    rcases hd with hd | hd
    ·exact HAll.out d hd
    ·have : d = c := by simpa using hd
     rw [this]; exact hp
   have HC := Lib.hid hc
   have HRun := Lib.hid hrun
   have HTk := Lib.hid htk
   have FC := Lib.hid (HF.out wr c)
   clear hlk hdrop hrun htk
   cases hp : p c with
   | true =>
    have HT := Lib.hid (HTk.out hp)
    rw [hp] at FC
    clear hp HTk
    go_wp2_with fail
    rw [← HC.out]
    refine FC.out.mono ?_
    rintro e w1 ⟨rfl, k1⟩
    have K1 := Lib.hid (KR.out.trans k1 (fun _ _ h => h))
    clear k1
    go_wp2
    go_roundw
    case rel => exact ⟨k + 1, by omega, by go_num, HT.out, K1.out⟩
    case measure => simp [intOf]; omega
   | false =>
    have hr : runL p l = k := by
     have h := HRun.out
     rw [runL_cons_false p c _ hp] at h
     exact h
    have HR := Lib.hid hr
    rw [hp] at FC
    clear hp HTk hr
    go_wp2_with fail
    rw [← HC.out]
    refine FC.out.mono ?_
    rintro e w1 ⟨rfl, k1⟩
    have K1 := Lib.hid (KR.out.trans k1 (fun _ _ h => h))
    clear k1
    go_wp2
    go_ret
    exact ⟨by rw [HR.out]; rfl, K1.out⟩
  ·have hkN' : ¬ (k : Int) < (N : Int) := by omega
   have hkS' : ¬ (k : Int) < (s.size : Int) := by omega
   have hd : decide ((k : Int) < (s.size : Int)) = false := decide_eq_false hkS'
   have hr : runL p l = k := by
    have e : k = l.length := by have := HLN.out; omega
    have h := HAll.out
    rw [e, List.take_length] at h
    rw [runL_whole p l h, e]
   have HR := Lib.hid hr
   clear hr
   go_wp2
   go_ret
   exact ⟨by rw [HR.out]; rfl, KR.out⟩
theorem enter66 : ∀ args w, (callFunc 84 args).run Tryz.prog w = .ok (.enter 84 args) w := enters_of Tryz.func84 (by kernel_rfl) rfl
theorem enter91 : ∀ args w, (callFunc 113 args).run Tryz.prog w = .ok (.enter 113 args) w := enters_of Tryz.func113 (by kernel_rfl) rfl
theorem enter92 : ∀ args w, (callFunc 115 args).run Tryz.prog w = .ok (.enter 115 args) w := enters_of Tryz.func115 (by kernel_rfl) rfl
end Go.Proofs.YtbhpnioggpgbhaaGreatDoor
