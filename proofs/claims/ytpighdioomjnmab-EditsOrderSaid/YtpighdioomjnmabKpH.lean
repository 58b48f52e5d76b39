/-
  Layer 14: what a Keep of numbers is in memory; the contract of behind. Written by an AI agent.
-/
import Derived.Test.YtpighdioomjnmabKpG
namespace Go.Proofs.Ytpighdioomjnmab
open Go.RowKit Go.Shelf
set_option linter.unusedVariables false
set_option linter.unusedSimpArgs false

open Go.RowKit

/-- Only blocks of S may have changed; what is new stands behind. -/
structure Keeps (S : Nat → Prop) (w w' : World) : Prop where
  os : w'.os = w.os
  tape : w'.tape = w.tape
  output : w'.output = w.output
  size : w.heap.size ≤ w'.heap.size
  block : ∀ k, k < w.heap.size → ¬ S k → w'.heap[k]? = w.heap[k]?

theorem Keeps.refl (S : Nat → Prop) (w : World) : Keeps S w w := ⟨rfl, rfl, rfl, Nat.le_refl _, fun _ _ _ => rfl⟩
theorem Keeps.mono {S T : Nat → Prop} {w w' : World} (h : Keeps S w w') (hs : ∀ k, k < w.heap.size → S k → T k) : Keeps T w w' :=
  ⟨h.os, h.tape, h.output, h.size, fun k hk hn => h.block k hk fun hs' => hn (hs k hk hs')⟩
theorem Keeps.trans {S T : Nat → Prop} {a b c : World} (h : Keeps S a b) (k : Keeps T b c) (hs : ∀ x, x < a.heap.size → T x → S x) : Keeps S a c :=
  ⟨k.os.trans h.os, k.tape.trans h.tape, k.output.trans h.output, Nat.le_trans h.size k.size,
    fun x hx hn => (k.block x (Nat.lt_of_lt_of_le hx h.size) fun ht => hn (hs x hx ht)).trans (h.block x hx hn)⟩
theorem Keeps.drew {S : Nat → Prop} {a w : World} (h : Keeps S a w) : Keeps S a w.drew := ⟨h.os, h.tape, h.output, h.size, h.block⟩
theorem Keeps.alloc {S : Nat → Prop} {a w : World} (h : Keeps S a w) (o : Obj) : Keeps S a (w.alloc o) :=
  h.trans (T := S) ⟨rfl, rfl, rfl, by simp, fun k hk _ => Below.heap_alloc w o k hk⟩ (fun _ _ h => h)
theorem Keeps.setCell {S : Nat → Prop} {a w : World} (h : Keeps S a w) {p : Addr} (hp : p.block < a.heap.size → S p.block) (u : Value) : Keeps S a (w.setCell p u) :=
  ⟨h.os, h.tape, h.output, by simpa using h.size, fun k hk hn => (Below.heap_setCell w p u k (fun e => hn (by subst e; exact hp hk))).trans (h.block k hk hn)⟩
theorem Keeps.grown {S : Nat → Prop} {a w w' : World} {row : Option Nat} (h : Keeps S a w) (hg : w.grownBy w' row) (hr : ∀ k, row = some k → k < a.heap.size → S k) : Keeps S a w' :=
  ⟨hg.os.trans h.os, hg.tape.trans h.tape, hg.output.trans h.output, Nat.le_trans h.size hg.size,
    fun k hk hn => (hg.block k (Nat.lt_of_lt_of_le hk h.size) fun e => hn (hr k e.symm hk)).trans (h.block k hk hn)⟩
theorem Keeps.ofBelow {S : Nat → Prop} {w w' : World} (h : Below w.heap.size w w') : Keeps S w w' := ⟨h.os, h.tape, h.output, h.size, fun k hk _ => h.block k hk⟩
theorem Keeps.toBelow {S : Nat → Prop} {B : Nat} {w w' : World} (h : Keeps S w w') (hB : B ≤ w.heap.size) (hs : ∀ k, S k → B ≤ k) : Below B w w' :=
  ⟨h.os, h.tape, h.output, h.size, fun k hk => h.block k (Nat.lt_of_lt_of_le hk hB) fun hS => absurd (hs k hS) (by omega)⟩
theorem Keeps.cell {S : Nat → Prop} {w w' : World} (h : Keeps S w w') {b o : Nat} (hb : b < w.heap.size) (hn : ¬ S b) : w'.cell? ⟨b, o, none⟩ = w.cell? ⟨b, o, none⟩ :=
  World.cell?_of_block (w := w) (h.block b hb hn)
theorem Keeps.frozen {S : Nat → Prop} {w w' : World} (h : Keeps S w w') {b o : Nat} (hb : b < w.heap.size) (hn : ¬ S b) : w'.frozen? ⟨b, o, none⟩ = w.frozen? ⟨b, o, none⟩ :=
  World.frozen?_of_block (w := w) (h.block b hb hn)

/-- A row of the call's own stays so, if its block is kept. -/
theorem ownsRow_keep {w w' : World} {base e size : Nat} {v : Value} {n : Nat} {xs : List Value} (h : w.ownsRow base e size v n xs) (hk : ∀ k, v.ownBlock = some k → w'.heap[k]? = w.heap[k]?) :
    w'.ownsRow base e size v n xs := by
  refine ⟨h.1, ?_⟩
  rcases h.2 with h0 | ⟨g, cap, cur, rfl, hb, hg, r⟩
  · exact .inl h0
  · exact .inr ⟨g, cap, cur, rfl, hb, (hk g rfl).trans hg, r⟩


theorem own_ltk {w : World} {base e size : Nat} {v : Value} {n : Nat} {xs : List Value} (h : w.ownsRow base e size v n xs) {k : Nat} (hk : v.ownBlock = some k) : k < w.heap.size := (h.lt k hk).2

/-- Times and numbers as cells. -/
def flatK (L : List (Int × Int)) : List Value := L.flatMap fun x => [.int .i64 x.1, .int .i64 x.2]
theorem flatK_cons (a : Int × Int) (L : List (Int × Int)) : flatK (a :: L) = .int .i64 a.1 :: .int .i64 a.2 :: flatK L := by simp [flatK]
theorem flatK_length (L : List (Int × Int)) : (flatK L).length = L.length * 2 := by
  induction L with
  | nil => rfl
  | cons a L ih => rw [flatK_cons, List.length_cons, List.length_cons, ih, List.length_cons]; omega
theorem flatK_one (L : List (Int × Int)) : ∀ u ∈ flatK L, u.oneCell' = true := by
  intro u hu
  simp only [flatK, List.mem_flatMap] at hu
  obtain ⟨a, _, hu⟩ := hu
  rcases List.mem_cons.1 hu with rfl | hu
  · rfl
  · rcases List.mem_cons.1 hu with rfl | hu
    · rfl
    · cases hu
theorem flatK_at (L : List (Int × Int)) (i : Nat) (h : i < L.length) : (flatK L)[i * 2]? = some (.int .i64 (L.getD i (0, 0)).1) ∧ (flatK L)[i * 2 + 1]? = some (.int .i64 (L.getD i (0, 0)).2) := by
  induction L generalizing i with
  | nil => exact absurd h (Nat.not_lt_zero _)
  | cons a L ih =>
    rw [flatK_cons]
    cases i with
    | zero => exact ⟨rfl, rfl⟩
    | succ i =>
      have h2 := ih i (by simpa using h)
      rw [show (i + 1) * 2 = i * 2 + 1 + 1 by omega]
      exact h2

/-- A Keep of numbers. -/
structure KeepIs (w : World) (S : Nat → Prop) (kp : Nat) (most : Int) (v : Value) (L : List (Int × Int)) : Prop where
  c0 : w.cell? ⟨kp, 0, none⟩ = some (.int .i64 most)
  c1 : w.cell? ⟨kp, 1, none⟩ = some v
  fz : ∀ k, w.frozen? ⟨kp, k, none⟩ = false
  lt : kp < w.heap.size
  sp : S kp
  own : w.ownsRow 0 72 2 v L.length (flatK L)
  vb : ∀ g, v.ownBlock = some g → S g ∧ g ≠ kp
  up : ∀ i j, i < j → j < L.length → (L.getD i (0, 0)).1 < (L.getD j (0, 0)).1

theorem KeepIs.keep {w w' : World} {S T : Nat → Prop} {kp : Nat} {most : Int} {v : Value} {L : List (Int × Int)} (h : KeepIs w S kp most v L) (hk : Keeps T w w') (hT : ∀ k, k < w.heap.size → S k → ¬ T k) : KeepIs w' S kp most v L where
  c0 := (hk.cell h.lt (hT kp h.lt h.sp)).trans h.c0
  c1 := (hk.cell h.lt (hT kp h.lt h.sp)).trans h.c1
  fz := fun k => (hk.frozen h.lt (hT kp h.lt h.sp)).trans (h.fz k)
  lt := Nat.lt_of_lt_of_le h.lt hk.size
  sp := h.sp
  own := ownsRow_keep h.own fun k hv => hk.block k (own_ltk h.own hv) (hT k (own_ltk h.own hv) (h.vb k hv).1)
  vb := h.vb
  up := h.up

/-- What behind tells. -/
def Behind (L : List (Int × Int)) (x : Int) (w : World) (e : Ending) (w' : World) : Prop :=
  ∃ r : Nat, e = .returned (.int .i64 (r : Int)) ∧ Keeps (fun _ => False) w w' ∧ r ≤ L.length ∧ (∀ t, t < r → (L.getD t (0, 0)).1 ≤ x) ∧ (∀ t, r ≤ t → t < L.length → x < (L.getD t (0, 0)).1)

theorem keeps_grow (w : World) (q : Nat) (os : Array Obj) : Keeps (fun _ => False) w (Go.Sort.grow (w.drewN q) os) := by
  have h := Go.Proofs.below_grown_sl w.heap.size w q os (Nat.le_refl _)
  exact Keeps.ofBelow h

set_option maxRecDepth 100000 in
set_option maxHeartbeats 2000000 in
theorem behind_any (w : World) (S : Nat → Prop) (kp : Nat) (most : Int) (v : Value) (L : List (Int × Int)) (H : KeepIs w S kp most v L) (hn : L.length ≤ 1000) (x : Int) :
    Calls Try.prog 37 #[.pointer (some ⟨kp, 0, none⟩), .int .i64 x] w (Behind L x w) := by
  obtain ⟨W0, hW0⟩ : ∃ W0, W0 = (w.alloc (.cells #[.pointer (some ⟨kp, 0, none⟩)] 24)).alloc (.cells #[.int .i64 x] 3) := ⟨_, rfl⟩
  have hsize : W0.heap.size = w.heap.size + 1 + 1 := by rw [hW0]; simp
  have k0 : Keeps (fun _ => False) w W0 := by rw [hW0]; exact ((Keeps.refl _ w).alloc _).alloc _
  have H0 := H.keep k0 (fun _ _ _ h => h)
  have cp : W0.cell? ⟨w.heap.size, 0, none⟩ = some (.pointer (some ⟨kp, 0, none⟩)) := by rw [hW0]; exact Go.Proofs.cell_alloc_sl _ (Go.Proofs.cell_new_sl w _ _)
  have cx : W0.cell? ⟨w.heap.size + 1, 0, none⟩ = some (.int .i64 x) := by
    rw [hW0]
    have := Go.Proofs.cell_new_sl (w.alloc (.cells #[.pointer (some ⟨kp, 0, none⟩)] 24)) (.int .i64 x) 3
    rwa [World.size_alloc] at this
  have eg : ∀ args w, (callFunc 54 args).run Try.prog w = .ok (.enter 54 args) w := enters_of Try.func54 (by kernel_rfl) rfl
  have hS := search_any W0 54 #[.pointer (some ⟨w.heap.size, 0, none⟩), .pointer (some ⟨w.heap.size + 1, 0, none⟩)] L.length (fun i => decide (x < (L.getD i (0, 0)).1)) eg hn
    (fun m os i hi => by
      have hk := keeps_grow W0 m os
      have H1 := H0.keep hk (fun _ _ _ h => h)
      rcases H1.own.2 with ⟨_, h0⟩ | ⟨g, cap, cur, hv, _⟩
      · omega
      · have c1 := H1.c1
        have ho := H1.own
        rw [hv] at c1 ho
        have hc := ho.cellAt (i * 2) (by omega)
        rw [(flatK_at L i hi).1] at hc
        refine (behind_asks _ w.heap.size (w.heap.size + 1) kp g L.length cap i x _ ((hk.cell (by omega) (fun h => h)).trans cp) c1 hc ((hk.cell (by omega) (fun h => h)).trans cx) hi).mono ?_
        rintro e w' ⟨he, q, hq⟩
        exact ⟨he, q, #[], by rw [hq]; exact (Go.Sort.grow_empty _).symm⟩)
    (fun a b hab hb h => by
      rcases Nat.lt_or_ge a b with h1 | h1
      · have := H.up a b h1 hb
        simp only [decide_eq_true_eq] at h ⊢
        omega
      · obtain rfl : a = b := by omega
        exact h)
  have hSh := Lib.hid hS
  have K0 := Lib.hid k0
  have c1 := H0.c1
  obtain ⟨A, c, hv⟩ : ∃ A c, v = .slice A L.length c := by
    rcases H.own.2 with ⟨e1, h0⟩ | ⟨g, cap, cur, e1, _⟩
    · exact ⟨none, 0, by rw [e1, h0]⟩
    · exact ⟨_, cap, e1⟩
  subst hv
  obtain ⟨N, hN⟩ : ∃ N : Nat, N = L.length := ⟨_, rfl⟩
  rw [← hN] at c1 hSh hn
  have HN := Lib.hid hN
  clear hS k0 H0 H hN eg
  go_enter Try.func37, Try.ntmps37
  have c1' := c1
  rw [hW0] at c1'
  go_wp2_with (go_at_call 53; rw [← hW0]; refine hSh.out.mono ?_; rintro e w' ⟨r, q, os, rfl, rfl, h1, h2, h3⟩)
  go_ret
  refine ⟨r, rfl, (by have h := K0.out.trans (keeps_grow W0 q os) (fun _ _ h => h); rw [hW0] at h; exact h), by rw [← HN.out]; exact h1, fun t ht => ?_, fun t ht ht2 => ?_⟩
  · have := h2 t ht
    simp only [decide_eq_false_iff_not] at this
    omega
  · have := h3 t ht (by rw [HN.out]; exact ht2)
    simpa using this

end Go.Proofs.Ytpighdioomjnmab
