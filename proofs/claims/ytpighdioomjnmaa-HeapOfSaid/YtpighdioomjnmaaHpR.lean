/-
  Layer 10: the document's heap in memory; contracts of Cells and of its Make. Written by an AI agent.
-/
import Derived.Test.YtpighdioomjnmaaHpO
import Derived.Test.YtpighdioomjnmaaHpH
import Derived.Deep.RegionLaw
namespace Go.Proofs.Ytpighdioomjnmaa
open Go.RowKit
set_option linter.unusedVariables false

abbrev nilS : Value := .slice none 0 0

/-- Rows of numbers, each in memory of its own. -/
structure RowsIs (w : World) (S : Nat → Prop) (p : Nat) (v : Value) (rows : List Value) (L : List (List Int)) : Prop where
  own : w.ownsRow 0 41 1 v L.length rows
  vb : ∀ k, v.ownBlock = some k → S k ∧ k ≠ p
  row : ∀ i, i < L.length → w.ownsRow 0 3 1 (rows.getD i nilS) (L.getD i []).length (iv (L.getD i []))
  rb : ∀ i, i < L.length → ∀ k, (rows.getD i nilS).ownBlock = some k → S k ∧ k ≠ p
  ne : ∀ i j, i < L.length → j < L.length → i ≠ j → ∀ k, (rows.getD i nilS).ownBlock = some k → (rows.getD j nilS).ownBlock ≠ some k

/-- The document's heap of these lists. -/
def RefIs (w : World) (S : Nat → Prop) (p : Nat) (L : List (List Int)) : Prop :=
  ∃ v rows, w.cell? ⟨p, 0, none⟩ = some v ∧ (∀ k, w.frozen? ⟨p, k, none⟩ = false) ∧ p < w.heap.size ∧ S p ∧ RowsIs w S p v rows L

theorem RowsIs.keep {w w' : World} {S T : Nat → Prop} {p : Nat} {v : Value} {rows : List Value} {L : List (List Int)} (h : RowsIs w S p v rows L) (hk : Keeps T w w') (hT : ∀ k, k < w.heap.size → S k → ¬ T k) : RowsIs w' S p v rows L where
  own := ownsRow_keep h.own fun k hv => hk.block k (own_lt h.own hv) (hT k (own_lt h.own hv) (h.vb k hv).1)
  vb := h.vb
  row := fun i hi => ownsRow_keep (h.row i hi) fun k hv => hk.block k (own_lt (h.row i hi) hv) (hT k (own_lt (h.row i hi) hv) (h.rb i hi k hv).1)
  rb := h.rb
  ne := h.ne
theorem RefIs.keep {w w' : World} {S T : Nat → Prop} {p : Nat} {L : List (List Int)} (h : RefIs w S p L) (hk : Keeps T w w') (hT : ∀ k, k < w.heap.size → S k → ¬ T k) : RefIs w' S p L := by
  obtain ⟨v, rows, h1, h2, h3, h4, h5⟩ := h
  exact ⟨v, rows, (hk.cell h3 (hT p h3 h4)).trans h1, fun k => (hk.frozen h3 (hT p h3 h4)).trans (h2 k), Nat.lt_of_lt_of_le h3 hk.size, h4, h5.keep hk hT⟩
theorem RowsIs.wider {w : World} {S T : Nat → Prop} {p : Nat} {v : Value} {rows : List Value} {L : List (List Int)} (h : RowsIs w S p v rows L) (hST : ∀ k, k < w.heap.size → S k → T k) : RowsIs w T p v rows L :=
  { h with vb := fun k hv => ⟨hST k (own_lt h.own hv) (h.vb k hv).1, (h.vb k hv).2⟩, rb := fun i hi k hv => ⟨hST k (own_lt (h.row i hi) hv) (h.rb i hi k hv).1, (h.rb i hi k hv).2⟩ }
theorem RefIs.wider {w : World} {S T : Nat → Prop} {p : Nat} {L : List (List Int)} (h : RefIs w S p L) (hST : ∀ k, k < w.heap.size → S k → T k) : RefIs w T p L := by
  obtain ⟨v, rows, h1, h2, h3, h4, h5⟩ := h
  exact ⟨v, rows, h1, h2, h3, hST p h3 h4, h5.wider hST⟩

theorem RowsIs.ls {w : World} {S : Nat → Prop} {p : Nat} {v : Value} {rows : List Value} {L : List (List Int)} (h : RowsIs w S p v rows L) : LsIs w S v L :=
  ⟨rows, h.own, fun k hv => (h.vb k hv).1, fun i hi => ⟨h.row i hi, fun k hv => (h.rb i hi k hv).1⟩⟩
theorem RowsIs.form {w : World} {S : Nat → Prop} {p : Nat} {v : Value} {rows : List Value} {L : List (List Int)} (h : RowsIs w S p v rows L) : ∃ A c, v = .slice A L.length c := by
  rcases h.own.2 with ⟨e, h0⟩ | ⟨g, cap, cur, e, _⟩
  · exact ⟨none, 0, by rw [e, h0]⟩
  · exact ⟨_, cap, e⟩

theorem refIs_new (w : World) : RefIs (w.alloc (.cells #[.slice none 0 0] 29)) (fun k => k = w.heap.size) w.heap.size [] :=
  ⟨nilS, [], by simp [nilS], fun k => World.frozen?_alloc_new _ _ _ _, by simp, rfl, ⟨World.ownsRow_nil _ _ _ _, by simp [Value.ownBlock], fun i hi => absurd hi (Nat.not_lt_zero _), fun i hi => absurd hi (Nat.not_lt_zero _), fun i _ hi => absurd hi (Nat.not_lt_zero _)⟩⟩

set_option maxRecDepth 100000 in
set_option maxHeartbeats 1000000 in
theorem cells_any (w : World) (A : Option Addr) (cap : Nat) (L : List (List Int)) (hL : L.length ≤ 1000) (hc : L.flatten.length ≤ 1000) (hA : RdL w A L) :
    Calls Try.prog 23 #[.slice A L.length cap] w fun e w' => e = .returned (.int .i64 ((L.length + L.flatten.length : Nat) : Int)) ∧ w = w' := by
  obtain ⟨n, hn⟩ : ∃ n : Nat, n = L.length := ⟨_, rfl⟩
  obtain ⟨F, hF⟩ : ∃ F : Nat, F = L.flatten.length := ⟨_, rfl⟩
  have HA := Lib.hid hA
  rw [← hn] at hL ⊢
  rw [← hF] at hc ⊢
  have HN := Lib.hid hn
  have HF := Lib.hid hF
  clear hn hF hA
  go_enter Try.func23, Try.ntmps23
  go_wp2_with fail
  go_loop [3, 4] (fun s i => ∃ k f : Nat, k ≤ n ∧ i = .int .i64 k ∧ s = .int .i64 ((n : Int) + (f : Int)) ∧ f = (L.take k).flatten.length) (fun _ i => n - (intOf i).toNat)
  case atStart => exact ⟨0, 0, Nat.zero_le _, rfl, by simp, by simp⟩
  case round =>
    obtain ⟨k, f, hk, rfl, rfl, hf⟩ := hrel
    have hfl : f ≤ 1000 := by have := flat_le L k; have := HF.out; omega
    by_cases hkn : k < n
    · have hkn' : (k : Int) < (n : Int) := by omega
      have hk0 : (0 : Int) ≤ (k : Int) := by omega
      obtain ⟨ba, oa, rfl, ha⟩ := HA.out (by rw [← HN.out]; omega)
      obtain ⟨A2, c2, ha1, ha2⟩ := ha k (by rw [← HN.out]; exact hkn)
      obtain ⟨m, hm⟩ : ∃ m : Nat, m = (L.getD k []).length := ⟨_, rfl⟩
      rw [← hm] at ha1
      have hft := flat_take L k (by rw [← HN.out]; exact hkn)
      rw [← hm, ← hf] at hft
      have hm2 : m ≤ 1000 := by have := flat_le L (k + 1); have := HF.out; omega
      have HFt := Lib.hid hft
      clear ha ha2 hm hf hft
      go_wp2
      go_round
      case rel => exact ⟨k + 1, f + m, by omega, by go_num, by go_num, HFt.out.symm⟩
      case measure => simp [intOf]; omega
    · obtain rfl : k = n := by omega
      have hd : decide (k < k) = false := by simp
      have hfF : f = F := by rw [hf, HF.out, List.take_of_length_le (by rw [← HN.out]; exact Nat.le_refl _)]
      have HH := Lib.hid hfF
      clear hf hfF
      go_wp2
      go_ret
      exact ⟨by rw [HH.out]; go_num, rfl⟩
theorem own_form {w : World} {b e : Nat} {v : Value} {n : Nat} {xs : List Value} (h : w.ownsRow b e 1 v n xs) : ∃ A c, v = .slice A n c := by
  rcases h.2 with ⟨e1, h0⟩ | ⟨g, cap, cur, e1, _⟩
  · exact ⟨none, 0, by rw [e1, h0]⟩
  · exact ⟨_, cap, e1⟩

theorem getD_snoc_lt {α : Type} {l : List α} {x d : α} {i : Nat} (h : i < l.length) : (l ++ [x]).getD i d = l.getD i d := by
  rw [List.getD_eq_getElem?_getD, List.getElem?_append_left h, ← List.getD_eq_getElem?_getD]
theorem getD_snoc_eq {α : Type} {l : List α} {x d : α} {i : Nat} (h : i = l.length) : (l ++ [x]).getD i d = x := by
  subst h
  rw [List.getD_eq_getElem?_getD, List.getElem?_concat_length]
  rfl

theorem rmade_end {w W5 : World} {S : Nat → Prop} {p n N : Nat} {v v5 : Value} {rows : List Value} {L : List (List Int)} {ob : Obj} (hN : L.length = N) (c0 : w.cell? ⟨p, 0, none⟩ = some v) (fz : ∀ k, w.frozen? ⟨p, k, none⟩ = false) (hp : p < w.heap.size) (hS : S p) (H : RowsIs w S p v rows L) (hn : n ≤ 1000)
    (hown : W5.ownsRow 0 41 1 v5 (N + 1) (rows ++ [.slice (some ⟨w.heap.size, 0, none⟩) n n])) (hg : ((w.alloc (zrow n)).alloc ob).drew.grownBy W5 v.ownBlock) (hb : v5.ownBlock = v.ownBlock ∨ v5.ownBlock = some ((w.alloc (zrow n)).alloc ob).drew.heap.size) :
    RefIs (W5.setCell ⟨p, 0, none⟩ v5) (fun k => S k ∨ (w.heap.size ≤ k ∧ k < (W5.setCell ⟨p, 0, none⟩ v5).heap.size)) p (L ++ [List.replicate n 0]) ∧ Keeps S w (W5.setCell ⟨p, 0, none⟩ v5) ∧ (W5.cell? ⟨p, 0, none⟩ = some v) := by
  subst hN
  obtain ⟨W4, hW4⟩ : ∃ W4 : World, W4 = ((w.alloc (zrow n)).alloc ob).drew := ⟨_, rfl⟩
  have k4 : Keeps (fun _ => False) w W4 := by rw [hW4]; exact (((Keeps.refl _ w).alloc _).alloc _).drew
  have s4 : W4.heap.size = w.heap.size + 1 + 1 := by rw [hW4]; show (World.alloc _ _).heap.size = _; simp
  have z4 : W4.ownsRow 0 3 1 (.slice (some ⟨w.heap.size, 0, none⟩) n n) n (iv (List.replicate n 0)) := by rw [hW4]; exact ((own_zrow w n hn).alloc ob).drew
  rw [← hW4] at hg hb
  clear hW4
  have s5 := hg.size
  have hrl : rows.length = L.length := by have := H.own.1; omega
  have v4 := ownsRow_keep H.own fun k hv => k4.block k (own_lt H.own hv) (fun h => h)
  have hpb : W5.heap[p]? = w.heap[p]? := (hg.block p (by omega) fun e => (H.vb p e.symm).2 rfl).trans (k4.block p hp (fun h => h))
  have hc5 : W5.cell? ⟨p, 0, none⟩ = some v := (World.cell?_of_block (w := w) (a := ⟨p, 0, none⟩) hpb).trans c0
  have hsz : (W5.setCell ⟨p, 0, none⟩ v5).heap.size = W5.heap.size := by simp
  have hv5 : ∀ k, v5.ownBlock = some k → (S k ∨ (w.heap.size ≤ k ∧ k < W5.heap.size)) ∧ k ≠ p := fun k hk => by
    have hlt := own_lt hown hk
    rcases hb with e | e
    · have h := H.vb k (e.symm.trans hk)
      exact ⟨.inl h.1, h.2⟩
    · have e2 : k = W4.heap.size := by rw [e] at hk; exact (Option.some.inj hk).symm
      exact ⟨.inr ⟨by omega, hlt⟩, by omega⟩
  have hrow : ∀ i, i < L.length → (W5.setCell ⟨p, 0, none⟩ v5).ownsRow 0 3 1 (rows.getD i nilS) (L.getD i []).length (iv (L.getD i [])) := fun i hi => by
    have h1 := H.row i hi
    have h4 := ownsRow_keep h1 fun k hv => k4.block k (own_lt h1 hv) (fun h => h)
    refine ownsRow_keep h4 fun k hv => ?_
    exact (Below.heap_setCell W5 _ _ k (H.rb i hi k hv).2).trans (hg.block k (own_lt h4 hv) fun e => own_ne v4 h4 e.symm hv rfl)
  have hnew : (W5.setCell ⟨p, 0, none⟩ v5).ownsRow 0 3 1 (.slice (some ⟨w.heap.size, 0, none⟩) n n) n (iv (List.replicate n 0)) := by
    refine ownsRow_keep z4 fun k hv => ?_
    have hk : w.heap.size = k := by simpa [Value.ownBlock] using hv
    exact (Below.heap_setCell W5 _ _ k (show k ≠ p by omega)).trans (hg.block k (by omega) fun e => own_ne v4 z4 e.symm hv rfl)
  refine ⟨⟨v5, rows ++ [.slice (some ⟨w.heap.size, 0, none⟩) n n], World.cell?_setCell_same' W5 _ _ (by rw [hc5]; rfl), fun k => ?_, by rw [hsz]; omega, .inl hS, ⟨?_, ?_, ?_, ?_, ?_⟩⟩, ?_, hc5⟩
  · rw [World.frozen?_setCell]
    exact (World.frozen?_of_block (w := w) (a := ⟨p, k, none⟩) hpb).trans (fz k)
  · rw [List.length_append]
    exact ownsRow_keep hown fun k hk => Below.heap_setCell W5 _ _ k (hv5 k hk).2
  · intro k hk
    have h := hv5 k hk
    rw [hsz]
    exact h
  · intro i hi
    rw [List.length_append, List.length_singleton] at hi
    rcases Nat.lt_or_ge i L.length with h | h
    · rw [getD_snoc_lt (by omega), getD_snoc_lt h]
      exact hrow i h
    · rw [getD_snoc_eq (by omega), getD_snoc_eq (by omega), List.length_replicate]
      exact hnew
  · intro i hi k hk
    rw [List.length_append, List.length_singleton] at hi
    rw [hsz]
    rcases Nat.lt_or_ge i L.length with h | h
    · rw [getD_snoc_lt (by omega)] at hk
      have h2 := H.rb i h k hk
      exact ⟨.inl h2.1, h2.2⟩
    · rw [getD_snoc_eq (by omega)] at hk
      have hk2 : w.heap.size = k := by simpa [Value.ownBlock] using hk
      exact ⟨.inr ⟨by omega, by omega⟩, by omega⟩
  · intro i j hi hj hij k hk hk2
    rw [List.length_append, List.length_singleton] at hi hj
    rcases Nat.lt_or_ge i L.length with h | h
    · rw [getD_snoc_lt (by omega)] at hk
      rcases Nat.lt_or_ge j L.length with h3 | h3
      · rw [getD_snoc_lt (by omega)] at hk2
        exact H.ne i j h h3 hij k hk hk2
      · rw [getD_snoc_eq (by omega)] at hk2
        have e : w.heap.size = k := by simpa [Value.ownBlock] using hk2
        have := own_lt (H.row i h) hk
        omega
    · rw [getD_snoc_eq (by omega)] at hk
      have e : w.heap.size = k := by simpa [Value.ownBlock] using hk
      rcases Nat.lt_or_ge j L.length with h3 | h3
      · rw [getD_snoc_lt (by omega)] at hk2
        have := own_lt (H.row j h3) hk2
        omega
      · omega
  · have kS : Keeps S w W4 := k4.mono (fun _ _ h => h.elim)
    exact (kS.grown hg fun k hk hlt => (H.vb k hk).1).setCell (fun _ => hS) _

theorem rmake_low (w : World) (p : Nat) (n : Int) (h : n < 0) :
    Calls Try.prog 11 #[.pointer (some ⟨p, 0, none⟩), .int .i64 n] w fun e w' => e = .returned (.tuple #[.int .i64 0, .int .i64 7]) ∧ w' = w := by
  go_enter Try.func11, Try.ntmps11
  go_wp2
  exact bodyPost_ret (v := .tuple #[.int .i64 0, .int .i64 7]) (by simp [results, Try.results11, go_sem]) rfl ⟨rfl, rfl⟩
theorem rmake_high (w : World) (p : Nat) (n : Int) (h0 : ¬ n < 0) (h : 16 < n) :
    Calls Try.prog 11 #[.pointer (some ⟨p, 0, none⟩), .int .i64 n] w fun e w' => e = .returned (.tuple #[.int .i64 0, .int .i64 7]) ∧ w' = w := by
  go_enter Try.func11, Try.ntmps11
  go_wp2
  exact bodyPost_ret (v := .tuple #[.int .i64 0, .int .i64 7]) (by simp [results, Try.results11, go_sem]) rfl ⟨rfl, rfl⟩

set_option maxRecDepth 100000 in
theorem rmake_full (w : World) (S : Nat → Prop) (p : Nat) (L : List (List Int)) (H : RefIs w S p L) (hL : L.length ≤ 1000) (hc : L.flatten.length ≤ 1000) (n : Nat) (h16 : n ≤ 16) (h : 40 < L.length + L.flatten.length + n + 1) :
    Calls Try.prog 11 #[.pointer (some ⟨p, 0, none⟩), .int .i64 (n : Int)] w fun e w' => e = .returned (.tuple #[.int .i64 0, .int .i64 4]) ∧ w' = w := by
  obtain ⟨v, rows, c0, fz, hp, hS, H⟩ := H
  obtain ⟨A, c, rfl⟩ := H.form
  have CC := Lib.hid (cells_any w A c L hL hc H.ls.rd)
  obtain ⟨M, hM⟩ : ∃ M : Nat, M = L.length + L.flatten.length := ⟨_, rfl⟩
  obtain ⟨N, hN⟩ : ∃ N : Nat, N = L.length := ⟨_, rfl⟩
  rw [← hM] at CC h
  rw [← hN] at CC c0
  have hM2 : M ≤ 2000 := by omega
  clear H hM hN fz hS hL hc
  have a0 : ¬ (n : Int) < 0 := by omega
  have a1 : ¬ (16 : Int) < (n : Int) := by omega
  have a2 : (40 : Int) < (M : Int) + (n : Int) + 1 := by omega
  have hd : decide ((40 : Int) < (M : Int) + (n : Int) + 1) = true := decide_eq_true a2
  go_enter Try.func11, Try.ntmps11
  go_wp2_with fail
  refine CC.out.mono ?_
  rintro e w1 ⟨rfl, rfl⟩
  go_wp2
  exact bodyPost_ret (v := .tuple #[.int .i64 0, .int .i64 4]) (by simp [results, Try.results11, go_sem]) rfl ⟨rfl, rfl⟩

/-- What the document's Make leaves where there is room. -/
def RMade (S : Nat → Prop) (p : Nat) (L : List (List Int)) (n : Nat) (w : World) (e : Ending) (w' : World) : Prop :=
  e = .returned (.tuple #[.int .i64 ((L.length : Int) + 1), .int .i64 0]) ∧ RefIs w' (fun k => S k ∨ (w.heap.size ≤ k ∧ k < w'.heap.size)) p (L ++ [List.replicate n 0]) ∧ Keeps S w w'

set_option maxRecDepth 100000 in
set_option maxHeartbeats 2000000 in
theorem rmake_fits (w : World) (S : Nat → Prop) (p : Nat) (L : List (List Int)) (H : RefIs w S p L) (n : Nat) (h16 : n ≤ 16) (h : L.length + L.flatten.length + n + 1 ≤ 40) :
    Calls Try.prog 11 #[.pointer (some ⟨p, 0, none⟩), .int .i64 (n : Int)] w (RMade S p L n w) := by
  obtain ⟨i1, hj, hy0, hy1, hy2⟩ := info_parts info41
  have hmk := run_make_row' (P := Try.prog) 41 3 (.int .i64 0) 8 Try.underlying41 info3 rfl .i64 .i64 n (by omega) (by omega)
  obtain ⟨v, rows, c0, fz, hp, hS, H⟩ := H
  obtain ⟨A, c, rfl⟩ := H.form
  have CC := Lib.hid (cells_any w A c L (by omega) (by omega) H.ls.rd)
  obtain ⟨M, hM⟩ : ∃ M : Nat, M = L.length + L.flatten.length := ⟨_, rfl⟩
  obtain ⟨N, hN⟩ : ∃ N : Nat, N = L.length := ⟨_, rfl⟩
  rw [← hM] at CC h
  rw [← hN] at CC c0 H
  have hN40 : N ≤ 40 := by omega
  have hown := H.own
  rw [← hN] at hown
  have OW : Hid (∀ ob, ((w.alloc (zrow n)).alloc ob).drew.ownsRow 0 41 1 (.slice A N c) N rows) := fun ob => ((hown.alloc (zrow n)).alloc ob).drew
  have e1 : (w.alloc (zrow n)).heap.size = w.heap.size + 1 := by simp
  have NN := news_new (w.alloc (zrow n)) (.slice (some ⟨w.heap.size, 0, none⟩) n n) 41
  rw [e1] at NN
  have NNh := Lib.hid NN
  have HEnd := Lib.hid (fun (W5 : World) (v5 : Value) (ob : Obj) hown hg hb => rmade_end (W5 := W5) (v5 := v5) (ob := ob) (n := n) hN.symm c0 fz hp hS H (by omega) hown hg hb)
  have HF : Hid (∀ (W5 : World) (ob : Obj), ((w.alloc (zrow n)).alloc ob).drew.grownBy W5 (Value.slice A N c).ownBlock → W5.cell? ⟨p, 0, none⟩ = some (.slice A N c) ∧ ∀ k, W5.frozen? ⟨p, k, none⟩ = false) := fun W5 ob hg => by
    have k4 : Keeps (fun _ => False) w ((w.alloc (zrow n)).alloc ob).drew := (((Keeps.refl _ w).alloc _).alloc _).drew
    have hpb : W5.heap[p]? = w.heap[p]? := (hg.block p (Nat.lt_of_lt_of_le hp k4.size) fun e => (H.vb p e.symm).2 rfl).trans (k4.block p hp (fun h => h))
    exact ⟨(World.cell?_of_block (w := w) (a := ⟨p, 0, none⟩) hpb).trans c0, fun k => (World.frozen?_of_block (w := w) (a := ⟨p, k, none⟩) hpb).trans (fz k)⟩
  have hpw : p ≠ w.heap.size := by omega
  have HN := Lib.hid hN
  clear H hM hN fz hS hown NN e1
  have a0 : ¬ (n : Int) < 0 := by omega
  have a1 : ¬ (16 : Int) < (n : Int) := by omega
  have a2 : ¬ (40 : Int) < (M : Int) + (n : Int) + 1 := by omega
  have hd : decide ((40 : Int) < (M : Int) + (n : Int) + 1) = false := decide_eq_false a2
  go_enter Try.func11, Try.ntmps11
  go_wp2_with fail
  refine CC.out.mono ?_
  rintro e w1 ⟨rfl, rfl⟩
  go_wp2_with fail
  go_region_law (refine step_append_at (by rfl) (.tmp 25) (.tmp 28) 27 (by rfl) 0 41 i1 _ 24 Try.underlying27 hj hy0 hy1 hy2 (by rfl) _ N rows (by rfl) (OW.out _) ⟨w.heap.size + 1, 0, none⟩ 1 1 [.slice (some ⟨w.heap.size, 0, none⟩) n n] (by rfl) (by rfl) NNh.out (by simp [Value.oneCell']) (by omega) (by omega) (by omega) ?_
                 intro v5 W5 hown5 hg5 hb5
                 obtain ⟨r0, rf⟩ := HF.out _ _ hg5
                 obtain ⟨A5, c5, rfl⟩ := own_form hown5
                 have O5 := Lib.hid hown5
                 have G5 := Lib.hid hg5
                 have B5 := Lib.hid hb5
                 clear hown5 hg5 hb5)
  all_goals
    have HE := HEnd.out _ _ _ O5.out G5.out B5.out
    have HHE := Lib.hid HE
    clear HE
    obtain ⟨W6, hW6⟩ : ∃ W6, W6 = W5.setCell ⟨p, 0, none⟩ (.slice A5 (N + 1) c5) := ⟨_, rfl⟩
    have r2 : W6.cell? ⟨p, 0, none⟩ = some (.slice A5 (N + 1) c5) := by rw [hW6]; exact World.cell?_setCell_same' W5 _ _ (by rw [r0]; rfl)
    rw [← hW6] at HHE ⊢
    clear hW6 r0 rf
    go_wp2
    exact bodyPost_ret (v := .tuple #[.int .i64 ((N : Int) + 1), .int .i64 0]) (by simp [results, Try.results11, go_sem]) rfl ⟨by rw [HN.out], HHE.out.1, HHE.out.2.1⟩

end Go.Proofs.Ytpighdioomjnmaa
