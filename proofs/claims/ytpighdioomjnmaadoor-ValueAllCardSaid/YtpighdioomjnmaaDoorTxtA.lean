/-
  Layer 5: the contracts of Word and Quoted. Written by an AI agent.
-/
import Derived.Test.YtpighdioomjnmaaDoorValG
import Derived.Test.YtpighdioomjnmaaDoorValF
import Derived.Shelf.Strconv.Itoa3
import Derived.Shelf.Lay
import Derived.Ground.NamesProg
import Derived.Lib.LaidTab
import Derived.Lib.Hide
namespace Go.Proofs.YtpighdioomjnmaaDoor.textsof
open Go.RowKit Go.Shelf

shelf_lay LaysM.n171 Nm 171 at Tryd as laysItoa

/-- The table of powers, as the program's text lays it. -/
def TabW (w : World) : Prop := Lib.TabIs Tryd.prog w "internal/strconv.uint64pow10" .u64 Lib.pow10Tab ∧ 0 < w.heap.size
theorem gPow : Tryd.prog.globalNamed "internal/strconv.uint64pow10" = some 0 := by kernel_rfl
theorem TabW.below {w w' : World} {B : Nat} (h : TabW w) (hb : Below B w w') (hB : 0 < B) : TabW w' := by
  refine ⟨?_, Nat.lt_of_lt_of_le h.2 hb.size⟩
  have h1 := h.1
  unfold Lib.TabIs World.var? at *
  rw [gPow] at *
  simp only [Option.bind_some] at *
  rw [hb.block 0 hB]
  exact h1

theorem below_grow (w : World) (k : Nat) (os : Array Obj) : Below w.heap.size w (Sort.grow (w.drewN k) os) := by
  have h1 : ∀ k, (w.drewN k).heap = w.heap ∧ (w.drewN k).os = w.os ∧ (w.drewN k).tape = w.tape ∧ (w.drewN k).output = w.output := by
    intro k
    induction k with
    | zero => exact ⟨rfl, rfl, rfl, rfl⟩
    | succ k ih => exact ih
  obtain ⟨e1, e2, e3, e4⟩ := h1 k
  refine ⟨e2, e3, e4, by rw [Sort.size_grow, e1]; omega, fun j hj => ?_⟩
  rw [Sort.heap_grow_old _ os (by rw [e1]; exact hj), e1]

/-- A number's numeral, as a string. -/
def numS (n : Int) : ByteArray := ⟨(Lib.itoa n).toArray⟩
theorem itoa_any (n : Int) (h0 : -9223372036854775808 ≤ n) (h1 : n ≤ 9223372036854775807) (w : World) (ht : TabW w) :
    Calls Tryd.prog 35 #[.int .i64 n] w fun e w' => e = .returned (.string (numS n)) ∧ Below w.heap.size w w' :=
  (Any.strconv_Itoa laysItoa n h0 h1 w ht.1).mono fun e w' ⟨he, k, os, hw⟩ => ⟨he, by rw [hw]; exact below_grow w k os⟩

/-- What is so, and what is not, as a word. -/
def boolS (n : Int) : ByteArray := if n = 1 then { data := #[116, 114, 117, 101] } else { data := #[102, 97, 108, 115, 101] }

theorem word_int (n : Int) (s : ByteArray) (h0 : -9223372036854775808 ≤ n) (h1 : n ≤ 9223372036854775807) (w : World) (ht : TabW w) :
    Calls Tryd.prog 27 #[.agg #[.int .i64 1, .int .i64 n, .string s]] w fun e w' => e = .returned (.string (numS n)) ∧ Below w.heap.size w w' := by
  have HC := Lib.hid (fun o => itoa_any n h0 h1 (w.alloc o) (ht.below ((Below.refl _ _).alloc (Nat.le_refl _) o) ht.2))
  clear h0 h1 ht
  go_enter Tryd.func27, Tryd.ntmps27
  go_wp2_with (go_at_call 35; refine (HC.out _).mono ?_; rintro e w1 ⟨rfl, hb1⟩; have HB := Lib.hid hb1; clear hb1)
  go_ret
  exact ⟨rfl, ((Below.refl _ _).alloc (Nat.le_refl _) _).trans (HB.out.mono (by simp))⟩

theorem word_bool (b : Bool) (s : ByteArray) (w : World) :
    Calls Tryd.prog 27 #[.agg #[.int .i64 2, .int .i64 (bN b), .string s]] w fun e w' => e = .returned (.string (boolS (bN b))) ∧ Below w.heap.size w w' := by
  cases b
  · show Calls Tryd.prog 27 #[.agg #[.int .i64 2, .int .i64 0, .string s]] w fun e w' => e = .returned (.string { data := #[102, 97, 108, 115, 101] }) ∧ Below w.heap.size w w'
    go_enter Tryd.func27, Tryd.ntmps27
    go_wp2
    go_ret
    exact ⟨rfl, (Below.refl _ _).alloc (Nat.le_refl _) _⟩
  · show Calls Tryd.prog 27 #[.agg #[.int .i64 2, .int .i64 1, .string s]] w fun e w' => e = .returned (.string { data := #[116, 114, 117, 101] }) ∧ Below w.heap.size w w'
    go_enter Tryd.func27, Tryd.ntmps27
    go_wp2
    go_ret
    exact ⟨rfl, (Below.refl _ _).alloc (Nat.le_refl _) _⟩

theorem word_text (n : Int) (s : ByteArray) (w : World) :
    Calls Tryd.prog 27 #[.agg #[.int .i64 3, .int .i64 n, .string s]] w fun e w' => e = .returned (.string s) ∧ Below w.heap.size w w' := by
  go_enter Tryd.func27, Tryd.ntmps27
  go_wp2
  go_ret
  exact ⟨rfl, (Below.refl _ _).alloc (Nat.le_refl _) _⟩

/-- A text between two marks. -/
def quoS (s : ByteArray) : ByteArray := { data := #[34] } ++ s ++ { data := #[34] }
theorem quoted_text (n : Int) (s : ByteArray) (hs : s.size ≤ 60) (w : World) :
    Calls Tryd.prog 29 #[.agg #[.int .i64 3, .int .i64 n, .string s]] w fun e w' => e = .returned (.string (quoS s)) ∧ Below w.heap.size w w' := by
  go_enter Tryd.func29, Tryd.ntmps29
  go_wp2
  go_ret
  exact ⟨rfl, (Below.refl _ _).alloc (Nat.le_refl _) _⟩

theorem quoted_other (t n : Int) (s x : ByteArray) (ht : ¬ t = 3) (w : World) (hT : TabW w)
    (WC : ∀ w, TabW w → Calls Tryd.prog 27 #[.agg #[.int .i64 t, .int .i64 n, .string s]] w fun e w' => e = .returned (.string x) ∧ Below w.heap.size w w') :
    Calls Tryd.prog 29 #[.agg #[.int .i64 t, .int .i64 n, .string s]] w fun e w' => e = .returned (.string x) ∧ Below w.heap.size w w' := by
  have HC := Lib.hid (fun o => WC (w.alloc o) (hT.below ((Below.refl _ _).alloc (Nat.le_refl _) o) hT.2))
  have ht' : (t == 3) = false := by simpa using ht
  clear hT WC
  go_enter Tryd.func29, Tryd.ntmps29
  go_wp2_with (go_at_call 27; refine (HC.out _).mono ?_; rintro e w1 ⟨rfl, hb1⟩; have HB := Lib.hid hb1; clear hb1)
  go_ret
  exact ⟨rfl, ((Below.refl _ _).alloc (Nat.le_refl _) _).trans (HB.out.mono (by simp))⟩

theorem boolS_beq (a b : Bool) : ((boolS (bN a)).toList == (boolS (bN b)).toList) = decide (bN a = bN b) := by
  rw [Lib.toList_data, Lib.toList_data]
  cases a <;> cases b <;> rfl
theorem quoS_beq (a b : ByteArray) : ((quoS a).toList == (quoS b).toList) = (a.toList == b.toList) := by
  have e : ∀ s, (quoS s).toList = 34 :: (s.toList ++ [34]) := fun s => by
    rw [Lib.toList_data, Lib.toList_data]
    simp [quoS]
  rw [e, e]
  by_cases h : a.toList = b.toList
  · rw [h]
    simp
  · have h2 : ¬ (34 :: (a.toList ++ [34]) = 34 :: (b.toList ++ [34])) := fun h3 => h (by simpa using h3)
    rw [beq_false_of_ne h, beq_false_of_ne h2]
end Go.Proofs.YtpighdioomjnmaaDoor.textsof
