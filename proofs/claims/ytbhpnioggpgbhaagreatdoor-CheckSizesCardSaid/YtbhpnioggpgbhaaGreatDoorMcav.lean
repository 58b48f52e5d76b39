/-
 Layer 4: the program's add. Written by an AI agent.
 Layer 4: the program's named. Written by an AI agent.
-/
import Derived.BigRegion
import Derived.Test.YtbhpnioggpgbhaaGreatDoorMcau
namespace Go.Proofs.YtbhpnioggpgbhaaGreatDoor
open Go Go.RowKit Go.Shelf
set_option linter.unusedVariables false
set_option linter.unusedSimpArgs false
theorem drewN_keeps (w : World) (n : Nat) : Keeps (fun _ => False) w (w.drewN n) := ⟨rfl, rfl, rfl, Nat.le_refl _, fun _ _ _ => rfl⟩
theorem info_var : (Tryz.prog.info? 46).map (fun i => (i.zero, i.size, i.bytes)) = some (some (.agg #[.string ⟨#[]⟩, .int .i64 0, .int .i64 0]), 3, 32) := by kernel_rfl
/-- A variable more. -/
theorem CkX.grow {w : World} {q : CkQ} {nd : List Nd} {fs : List Fnc} {w0 : World} {R : Nat → Prop} {s : CkS} {v : Value} (h : CkX w q nd fs w0 R s v) {w3 w5 : World} (k1 : Keeps (fun _ => False) w w3) (y : Vb) {v5 : Value} (ho : w5.ownsRow 0 46 3 v5 (s.V.length + 1) (flatV s.V ++ [.string (ofL y.x), .int .i64 y.t, .int .i64 y.s])) (hg : w3.grownBy w5 v.ownBlock) (hb : v5.ownBlock = v.ownBlock ∨ v5.ownBlock = some w3.heap.size) :
  (w5.cell? ⟨q.P, 6, none⟩ = some v ∧ w5.frozen? ⟨q.P, 6, none⟩ = false) ∧ ∃ R', Ck (w5.setCell ⟨q.P, 6, none⟩ v5) q nd fs w0 R' { s with V := s.V ++ [y] } ∧ Fr R w R' (w5.setCell ⟨q.P, 6, none⟩ v5) := by
 have hP := h.lt _ h.rP
 have hs1 := k1.size
 have k15 : Keeps (fun b => v.ownBlock = some b) w3 w5 := ⟨hg.os, hg.tape, hg.output, hg.size, fun b hb hn => hg.block b hb (fun e => hn e.symm)⟩
 have k25 : Keeps (fun b => v.ownBlock = some b) w w5 := (k1.mono (T := fun b => v.ownBlock = some b) (fun _ _ h => h.elim)).trans k15 (fun _ _ e => e)
 have nP : ¬ v.ownBlock = some q.P := fun e => (h.vb _ e).2 (by simp)
 have cP : ∀ j, w5.cell? ⟨q.P, j, none⟩ = w.cell? ⟨q.P, j, none⟩ := fun j => k25.cell hP nP
 have fP : ∀ j, w5.frozen? ⟨q.P, j, none⟩ = w.frozen? ⟨q.P, j, none⟩ := fun j => k25.frozen hP nP
 have c6 := (cP 6).trans h.c6
 have kw := one_block w5 q.P 6 v5
 have kall : Keeps (fun b => b = q.P ∨ v.ownBlock = some b) w (w5.setCell ⟨q.P, 6, none⟩ v5) :=
  (k25.mono (T := fun b => b = q.P ∨ v.ownBlock = some b) (fun _ _ e => .inr e)).trans kw (fun _ _ e => .inl e)
 have oth : ∀ j, 6 ≠ j → (w5.setCell ⟨q.P, 6, none⟩ v5).cell? ⟨q.P, j, none⟩ = w.cell? ⟨q.P, j, none⟩ := fun j e => (cell_other w5 6 j _ (.inl e)).trans (cP j)
 have hd := h.dist
 simp only [List.nodup_cons, List.mem_cons, List.not_mem_nil, or_false, not_or] at hd
 obtain ⟨⟨d1, d2, d3, d4⟩, ⟨d5, d6, d7⟩, ⟨d8, d9⟩, d10, _⟩ := hd
 have nin : ∀ b, b ∈ [q.T, q.S, q.F, q.Z] → ¬ (b = q.P ∨ v.ownBlock = some b) := fun b hb e => by
  rcases e with e | e
  ·simp only [List.mem_cons, List.not_mem_nil, or_false] at hb
   rcases hb with hb | hb | hb | hb
   ·exact d1 (e ▸ hb)
   ·exact d2 (e ▸ hb)
   ·exact d3 (e ▸ hb)
   ·exact d4 (e ▸ hb)
  ·exact (h.vb _ e).2 (List.mem_cons_of_mem _ hb)
 have b5 : ∀ g, v5.ownBlock = some g → g = w3.heap.size ∨ v.ownBlock = some g := fun g hg => by
  rcases hb with e | e
  ·exact .inr (e ▸ hg)
  ·rw [e] at hg; cases hg; exact .inl rfl
 have sz5 : w3.heap.size ≤ w5.heap.size := hg.size
 have sz6 : (w5.setCell ⟨q.P, 6, none⟩ v5).heap.size = w5.heap.size := by simp
 have nv5 : ∀ g, v5.ownBlock = some g → ¬ g ∈ [q.P, q.T, q.S, q.F, q.Z] := fun g hg hm => by
  rcases b5 g hg with e | e
  ·simp only [List.mem_cons, List.not_mem_nil, or_false] at hm
   have h1 := h.lt _ h.rT
   have h2 := h.lt _ h.rS
   have h3 := h.lt _ h.rF
   have h4 := h.lt _ h.rZ
   omega
  ·exact (h.vb g e).2 hm
 have base := h.up.size
 refine ⟨⟨c6, (fP 6).trans (h.fz 6)⟩, fun b => R b ∨ v5.ownBlock = some b, ⟨v5, {
  c0 := (oth 0 (by omega)).trans h.c0, c1 := (oth 1 (by omega)).trans h.c1, c2 := (oth 2 (by omega)).trans h.c2, c3 := (oth 3 (by omega)).trans h.c3, c4 := (oth 4 (by omega)).trans h.c4, c5 := (oth 5 (by omega)).trans h.c5, c6 := cell_same w5 q.P 6 _ _ c6, c7 := (oth 7 (by omega)).trans h.c7, c8 := (oth 8 (by omega)).trans h.c8, c9 := (oth 9 (by omega)).trans h.c9,
  fz := fun j => (World.frozen?_setCell w5 _ _ _).trans ((fP j).trans (h.fz j)), hm := h.hm, hk := h.hk,
  lt := fun b hb => by
   rw [sz6]
   rcases hb with hb | hb
   ·exact Nat.lt_of_lt_of_le (h.lt b hb) (by omega)
   ·exact (ho.lt b hb).2
  rP := .inl h.rP, rT := .inl h.rT, rS := .inl h.rS, rF := .inl h.rF, rZ := .inl h.rZ, dist := h.dist,
  tT := h.tT.keepR (h.lt _ h.rT) kall (nin _ (by simp)), tS := h.tS.keepR (h.lt _ h.rS) kall (nin _ (by simp)), tF := h.tF.keepR (h.lt _ h.rF) kall (nin _ (by simp)), tZ := h.tZ.keepR (h.lt _ h.rZ) kall (nin _ (by simp)),
  lT := h.lT, lS := h.lS, lF := h.lF, lZ := h.lZ,
  own := by
   rw [flatV_append, List.length_append]
   exact ownsRow_keep ho (fun g hg => kw.block g (ho.lt g hg).2 (fun e => nv5 g hg (by have e : g = q.P := e; rw [e]; simp)))
  vb := fun g hg => ⟨.inr hg, nv5 g hg⟩, tree := h.tree,
  up := h.up.trans kall (fun b _ e => by
   rcases e with e | e
   ·rw [e]; exact h.hi _ h.rP
   ·exact h.hi _ (h.vb b e).1),
  hi := fun b hb => by
   rcases hb with hb | hb
   ·exact h.hi b hb
   ·rcases b5 b hb with e | e
    ·omega
    ·exact h.hi _ (h.vb b e).1 }⟩, kall.mono (fun b _ e => by
   rcases e with e | e
   ·rw [e]; exact h.rP
   ·exact (h.vb b e).1), fun b hb hr => ?_⟩
 rcases hr with hr | hr
 ·exact hr
 ·rcases b5 b hr with e | e
  ·omega
  ·exact (h.vb b e).1
theorem news_abc {w : World} (a b c : Value) (t : TypeId) : ∀ j u, [a, b, c][j]? = some u → (w.alloc (.cells #[a, b, c] t)).cell? ((⟨w.heap.size, 0, none⟩ : Addr).add j) = some u := by
 intro j u h
 have e : (⟨w.heap.size, 0, none⟩ : Addr).add j = ⟨w.heap.size, j, none⟩ := by unfold Addr.add; split <;> simp_all
 rw [e, World.cell?_alloc_mark]
 simpa using h
set_option maxRecDepth 100000 in
set_option maxHeartbeats 16000000 in
theorem padd_any {w : World} {q : CkQ} {nd : List Nd} {fs : List Fnc} {w0 : World} {R : Nat → Prop} {s : CkS} (h : Ck w q nd fs w0 R s) (k n : Nat) (hf : s.fn = (k : Int)) (hk : k < q.k) (hz : s.sz[k]? = some (n : Int)) (hn : n ≤ 1000) (hV : s.V.length ≤ 1000) (x : List UInt8) (t : Int) :
  Calls Tryz.prog 48 #[.pointer (some ⟨q.P, 0, none⟩), .string (ofL x), .int .i64 t] w fun e w' => e = .returned (.int .i64 (n : Int)) ∧ ∃ R', Ck w' q nd fs w0 R' { s with sz := s.sz.set k ((n : Int) + 1), V := s.V ++ [⟨x, t, (n : Int)⟩] } ∧ Fr R w R' w' := by
 obtain ⟨i0, hi0, hz0, hz1, hz2⟩ := info_parts info_var
 have HH := Lib.hid h
 obtain ⟨v, hx⟩ := h
 have c5 := hx.c5
 have c7 := hx.c7
 rw [hf] at c7
 have zc := hx.tZ.cell k n hz
 have zf := hx.tZ.fz k
 have lP := hx.lt _ hx.rP
 have lZ := hx.lt _ hx.rZ
 have HK := Lib.hid hk
 have HLT := Lib.hid (And.intro lP lZ)
 obtain ⟨X, hX⟩ : ∃ X, X = ofL x := ⟨_, rfl⟩
 have HXX := Lib.hid hX
 rw [← hX]
 have hi : (k : Int) < (q.k : Int) := by omega
 have hi0k : (0 : Int) ≤ (k : Int) := by omega
 have wn : IntKind.i64.wrap ((n : Int) + 1) = (n : Int) + 1 := IntWalk.i64_in _ (by omega)
 generalize hPP : q.P = P at c5 c7 HLT ⊢
 generalize hZZ : q.Z = Z at c5 zc zf HLT
 generalize hKK : q.k = K at c5 hi
 have HPZ := Lib.hid (And.intro hPP hZZ)
 clear hX hx hf hk hz hPP hZZ hKK lP lZ
 go_enter Tryz.func48, Tryz.ntmps48
 go_upto_region 1 with fail
 go_quiet (fail)
 obtain ⟨wq, hwq⟩ : ∃ wq : World, wq = w.drewN nq := ⟨_, rfl⟩
 have kq : Keeps (fun _ => False) w wq := by rw [hwq]; exact drewN_keeps w nq
 rw [← hwq]
 have e5 := (kq.cell HLT.out.1 (fun h => h)).trans c5
 have e7 := (kq.cell HLT.out.1 (fun h => h)).trans c7
 have ez := (kq.cell HLT.out.2 (fun h => h)).trans zc
 have ef := (kq.frozen HLT.out.2 (fun h => h)).trans zf
 have KQ := Lib.hid kq
 clear hwq kq c5 c7 zc zf
 go_upto_region 2 with fail
 go_region
 obtain ⟨w2, hw2⟩ : ∃ w2, w2 = (wq.setCell ⟨Z, k, none⟩ (.int .i64 ((n : Int) + 1))).drew := ⟨_, rfl⟩
 have hset := (HH.out.keep KQ.out).setZ k ((n : Int) + 1) HK.out
 rw [HPZ.out.2] at hset
 have kd : Keeps (fun _ => False) (wq.setCell ⟨Z, k, none⟩ (.int .i64 ((n : Int) + 1))) w2 := by rw [hw2]; exact (Keeps.refl (fun _ => False) _).drew
 have HC2 := hset.1.keep kd
 have HF2 := Lib.hid ((((Fr.refl R w).keeps KQ.out).trans hset.2).keeps kd)
 rw [← hw2]
 obtain ⟨v2, hx2⟩ := HC2
 obtain ⟨A, c, rfl⟩ := own_formk hx2.own
 have c6 := hx2.c6
 rw [HPZ.out.1] at c6
 obtain ⟨m, hm⟩ : ∃ m, m = s.V.length := ⟨_, rfl⟩
 have hADD : Hid (∀ w3 w5 v5, Keeps (fun _ => False) w2 w3 → w5.ownsRow 0 46 3 v5 (m + 1) (flatV s.V ++ [.string X, .int .i64 t, .int .i64 n]) → w3.grownBy w5 (Value.slice A m c).ownBlock → (v5.ownBlock = (Value.slice A m c).ownBlock ∨ v5.ownBlock = some w3.heap.size) → (w5.cell? ⟨P, 6, none⟩ = some (.slice A m c) ∧ w5.frozen? ⟨P, 6, none⟩ = false) ∧
   ∃ R', Ck (w5.setCell ⟨P, 6, none⟩ v5) q nd fs w0 R' { s with sz := s.sz.set k ((n : Int) + 1), V := s.V ++ [⟨x, t, (n : Int)⟩] } ∧ Fr R w R' (w5.setCell ⟨P, 6, none⟩ v5)) := Lib.hid fun w3 w5 v5 k1 ho hg hb => by
  have hh := hx2.grow k1 ⟨x, t, (n : Int)⟩ (v5 := v5) (w5 := w5) (by show w5.ownsRow 0 46 3 v5 (s.V.length + 1) (flatV s.V ++ [.string (ofL x), .int .i64 t, .int .i64 n]); rw [← hm, ← HXX.out]; exact ho) (by show w3.grownBy w5 (Value.slice A s.V.length c).ownBlock; rw [← hm]; exact hg) (by show v5.ownBlock = (Value.slice A s.V.length c).ownBlock ∨ _; rw [← hm]; exact hb)
  obtain ⟨h1, R', h2, h3⟩ := hh
  rw [HPZ.out.1] at h1 h2 h3
  refine ⟨?_, R', h2, HF2.out.trans h3⟩
  rw [hm]; exact h1
 have hOwn : Hid (∀ w3, Keeps (fun _ => False) w2 w3 → w3.ownsRow 0 46 3 (.slice A m c) m (flatV s.V)) := Lib.hid fun w3 k => by
  have := (hx2.keepR k (fun _ _ h => h) (fun _ h => h.elim)).own
  rw [hm]; exact this
 replace c6 : w2.cell? ⟨P, 6, none⟩ = some (.slice A m c) := by rw [hm]; exact c6
 rw [← hm] at hV
 clear hx2 hset kd hw2 e5 e7 ez ef hm
 go_wp2_with (at_builtin; refine wpList_append_atk rfl (.tmp 36) (.tmp 41) 42 rfl 0 46 i0 _ 3 32 Tryz.underlying42 hi0 hz0 hz1 hz2 (by rfl) (by omega) (.slice A m c) m (flatV s.V) (by rfl) (hOwn.out _ (Keeps.one w2 _)) ⟨w2.heap.size, 0, none⟩ 1 1 [.string X, .int .i64 t, .int .i64 n] (by rfl) (by rfl) (news_abc _ _ _ _) (by intro u hu; simp only [List.mem_cons, List.not_mem_nil, or_false] at hu; rcases hu with rfl | rfl | rfl <;> rfl) (by omega) (by omega) (Nat.zero_le _) ?_; intro v5 w5 h5 g5 b5; obtain ⟨A5, c5, rfl⟩ := own_formk h5; have G := hADD.out _ w5 _ (Keeps.one w2 _) h5 g5 b5; obtain ⟨⟨d6, f6⟩, GR⟩ := G; replace GR := Lib.hid GR; clear h5 g5 b5 c6 hADD hOwn)
 go_ret
 exact ⟨rfl, GR.out⟩
end Go.Proofs.YtbhpnioggpgbhaaGreatDoor

namespace Go.Proofs.YtbhpnioggpgbhaaGreatDoor
open Go Go.RowKit Go.Shelf
set_option linter.unusedVariables false
set_option linter.unusedSimpArgs false
set_option maxRecDepth 100000 in
set_option maxHeartbeats 16000000 in
theorem named_none4 {w : World} {q : CkQ} {nd : List Nd} {fs : List Fnc} {w0 : World} {R : Nat → Prop} {s : CkS} (h : Ck w q nd fs w0 R s) (j : Nat) (hj : j < q.m) (ln n : Int) (x : List UInt8) (a : Option Addr) (m c : Nat) (hV : s.V.length ≤ 1000) (hv : lookV s.V x = none) :
  Calls Tryz.prog 101 #[.pointer (some ⟨q.P, 0, none⟩), .int .i64 j, .agg #[.int .i64 4, .int .i64 ln, .int .i64 n, .string (ofL x), .slice a m c]] w fun e w' => e = .returned (.int .i64 40) ∧ Keeps (fun _ => False) w w' := by
 have HH := Lib.hid h
 clear h
 obtain ⟨X, hX⟩ : ∃ X, X = ofL x := ⟨_, rfl⟩
 have HXX := Lib.hid hX
 rw [← hX]
 clear hX
 go_enter Tryz.func101, Tryz.ntmps101
 go_upto_region 1 with fail

 obtain ⟨P5, hP5⟩ : ∃ X, X = w.heap.size := ⟨_, rfl⟩
 obtain ⟨w1, hw1⟩ : ∃ w1, w1 = w.alloc (.cells #[.int .i64 4, .int .i64 ln, .int .i64 n, .string X, .slice a m c] 41) := ⟨_, rfl⟩
 have ka := Keeps.one w (.cells #[.int .i64 4, .int .i64 ln, .int .i64 n, .string X, .slice a m c] 41)
 have HX1 : Hid (Loc w1 (fun _ => False) P5 [.int .i64 4, .int .i64 ln, .int .i64 n, .string X, .slice a m c]) := Lib.hid (by rw [hw1, hP5]; exact Loc.new (fun h => h) [.int .i64 4, .int .i64 ln, .int .i64 n, .string X, .slice a m c] 41)
 have HP5 := Lib.hid hP5
 rw [← hP5]
 rw [← hw1] at ka ⊢
 have K1 := Lib.hid ka
 have b0 := HX1.out.cells 0 _ rfl
 have b3 := HX1.out.cells 3 _ rfl
 have b4 := HX1.out.cells 4 _ rfl
 clear ka hw1 hP5

 go_upto_region 6 with fail
 have FC : Hid (Calls Tryz.prog 46 #[.pointer (some ⟨q.P, 0, none⟩), .string X] w1 fun e w' => e = .returned (.tuple #[.agg #[.string { data := #[] }, .int .i64 0, .int .i64 0], .bool false]) ∧ Keeps (fun _ => False) w1 w') := Lib.hid (by
  have hc := pfind_any (HH.out.keep K1.out) x hV
  rw [← HXX.out] at hc
  have e : findV s.V x = .tuple #[.agg #[.string { data := #[] }, .int .i64 0, .int .i64 0], .bool false] := by unfold findV; rw [hv]; rfl
  rw [e] at hc
  exact hc)
 generalize q.P = P at FC ⊢
 clear hv hV hj
 go_wp2_with fail
 refine FC.out.mono ?_
 rintro e w2 ⟨rfl, k2⟩
 have K2 := Lib.hid (K1.out.trans k2 (fun _ _ h => h))
 clear FC K1 k2 b0 b3 b4 HX1
 go_wp2_with fail
 go_ret
 exact ⟨rfl, K2.out.trans (Keeps.one _ _) (fun _ _ h => h)⟩
set_option maxRecDepth 100000 in
set_option maxHeartbeats 16000000 in
theorem named_some4 {w : World} {q : CkQ} {nd : List Nd} {fs : List Fnc} {w0 : World} {R : Nat → Prop} {s : CkS} (h : Ck w q nd fs w0 R s) (j : Nat) (hj : j < q.m) (ln n : Int) (x : List UInt8) (a : Option Addr) (m c : Nat) (hV : s.V.length ≤ 1000) (v : Vb) (hv : lookV s.V x = some v) :
  Calls Tryz.prog 101 #[.pointer (some ⟨q.P, 0, none⟩), .int .i64 j, .agg #[.int .i64 4, .int .i64 ln, .int .i64 n, .string (ofL x), .slice a m c]] w fun e w' => e = .returned (.int .i64 0) ∧ Ck w' q nd fs w0 R { s with sl := s.sl.set j v.s } ∧ Fr R w R w' := by
 have HH := Lib.hid h
 clear h
 obtain ⟨X, hX⟩ : ∃ X, X = ofL x := ⟨_, rfl⟩
 have HXX := Lib.hid hX
 rw [← hX]
 clear hX
 go_enter Tryz.func101, Tryz.ntmps101
 go_upto_region 1 with fail

 obtain ⟨P5, hP5⟩ : ∃ X, X = w.heap.size := ⟨_, rfl⟩
 obtain ⟨w1, hw1⟩ : ∃ w1, w1 = w.alloc (.cells #[.int .i64 4, .int .i64 ln, .int .i64 n, .string X, .slice a m c] 41) := ⟨_, rfl⟩
 have ka := Keeps.one w (.cells #[.int .i64 4, .int .i64 ln, .int .i64 n, .string X, .slice a m c] 41)
 have HX1 : Hid (Loc w1 (fun _ => False) P5 [.int .i64 4, .int .i64 ln, .int .i64 n, .string X, .slice a m c]) := Lib.hid (by rw [hw1, hP5]; exact Loc.new (fun h => h) [.int .i64 4, .int .i64 ln, .int .i64 n, .string X, .slice a m c] 41)
 have HP5 := Lib.hid hP5
 rw [← hP5]
 rw [← hw1] at ka ⊢
 have K1 := Lib.hid ka
 have b0 := HX1.out.cells 0 _ rfl
 have b3 := HX1.out.cells 3 _ rfl
 have b4 := HX1.out.cells 4 _ rfl
 clear ka hw1 hP5

 go_upto_region 6 with fail
 obtain ⟨VX, hVX⟩ : ∃ X, X = ofL v.x := ⟨_, rfl⟩
 obtain ⟨vt, hvt⟩ : ∃ t, t = v.t := ⟨_, rfl⟩
 obtain ⟨vs, hvs⟩ : ∃ t, t = v.s := ⟨_, rfl⟩
 have FC : Hid (Calls Tryz.prog 46 #[.pointer (some ⟨q.P, 0, none⟩), .string X] w1 fun e w' => e = .returned (.tuple #[.agg #[.string VX, .int .i64 vt, .int .i64 vs], .bool true]) ∧ Keeps (fun _ => False) w1 w') := Lib.hid (by
  have hc := pfind_any (HH.out.keep K1.out) x hV
  rw [← HXX.out] at hc
  have e : findV s.V x = .tuple #[.agg #[.string VX, .int .i64 vt, .int .i64 vs], .bool true] := by unfold findV; rw [hv, hVX, hvt, hvs]
  rw [e] at hc
  exact hc)
 have HVS := Lib.hid hvs
 generalize hPP : q.P = P at FC ⊢
 have HPP := Lib.hid hPP
 clear hv hV hVX hvt hvs hPP
 go_wp2_with fail
 refine FC.out.mono ?_
 rintro e w2 ⟨rfl, k2⟩
 have K2 := Lib.hid (K1.out.trans k2 (fun _ _ h => h))
 clear FC K1 k2 b0 b3 b4 HX1
 go_upto_region 7 with fail
 obtain ⟨P7, hP7⟩ : ∃ X, X = w2.heap.size := ⟨_, rfl⟩
 obtain ⟨w3, hw3⟩ : ∃ w3, w3 = w2.alloc (.cells #[.string VX, .int .i64 vt, .int .i64 vs] 46) := ⟨_, rfl⟩
 have kb := Keeps.one w2 (.cells #[.string VX, .int .i64 vt, .int .i64 vs] 46)
 have HF : Hid (Loc w3 (fun _ => False) P7 [.string VX, .int .i64 vt, .int .i64 vs]) := Lib.hid (by rw [hw3, hP7]; exact Loc.new (fun h => h) [.string VX, .int .i64 vt, .int .i64 vs] 46)
 rw [← hP7]
 rw [← hw3] at kb ⊢
 have K3 := Lib.hid (K2.out.trans kb (fun _ _ h => h))
 have HC3 := Lib.hid (HH.out.keep K3.out)
 have f2 := HF.out.cells 2 _ rfl
 obtain ⟨v3, hx⟩ := HC3.out
 have c3 := hx.c3
 have hjs : j < s.sl.length := by rw [hx.lS]; exact hj
 obtain ⟨u, hu⟩ : ∃ u, u = s.sl[j] := ⟨_, rfl⟩
 have zc := hx.tS.cell j u (by rw [hu]; exact List.getElem?_eq_getElem hjs)
 have zf := hx.tS.fz j
 have HJ := Lib.hid hj
 rw [HPP.out] at c3
 have hi : (j : Int) < (q.m : Int) := by omega
 have hi0 : (0 : Int) ≤ (j : Int) := by omega
 generalize hSS : q.S = SS at c3 zc zf
 generalize q.m = M at c3 hi
 have HSS := Lib.hid hSS
 clear hx kb hw3 hP7 hj hjs hu hSS
 go_upto_region 9 with fail
 go_region
 have hset := HC3.out.setS j vs HJ.out
 rw [HSS.out] at hset
 have HZ : Hid (Ck ((w3.setCell ⟨SS, j, none⟩ (.int .i64 vs)).drew) q nd fs w0 R { s with sl := s.sl.set j v.s } ∧ Fr R w R ((w3.setCell ⟨SS, j, none⟩ (.int .i64 vs)).drew)) := Lib.hid (by rw [← HVS.out]; exact ⟨hset.1.keep ((Keeps.refl (fun _ => False) _).drew), ((((Fr.refl R w).keeps K3.out).trans hset.2)).keeps ((Keeps.refl (fun _ => False) _).drew)⟩)
 clear hset f2 c3 zc zf
 go_wp2_with fail
 go_ret
 exact ⟨rfl, HZ.out⟩
set_option maxRecDepth 100000 in
set_option maxHeartbeats 16000000 in
theorem named_none5 {w : World} {q : CkQ} {nd : List Nd} {fs : List Fnc} {w0 : World} {R : Nat → Prop} {s : CkS} (h : Ck w q nd fs w0 R s) (j : Nat) (hj : j < q.m) (ln n : Int) (x : List UInt8) (a : Option Addr) (m c : Nat) (hV : s.V.length ≤ 1000) (hv : lookV s.V x = none) :
  Calls Tryz.prog 101 #[.pointer (some ⟨q.P, 0, none⟩), .int .i64 j, .agg #[.int .i64 5, .int .i64 ln, .int .i64 n, .string (ofL x), .slice a m c]] w fun e w' => e = .returned (.int .i64 40) ∧ Keeps (fun _ => False) w w' := by
 have HH := Lib.hid h
 clear h
 obtain ⟨X, hX⟩ : ∃ X, X = ofL x := ⟨_, rfl⟩
 have HXX := Lib.hid hX
 rw [← hX]
 clear hX
 go_enter Tryz.func101, Tryz.ntmps101
 go_upto_region 1 with fail

 obtain ⟨P5, hP5⟩ : ∃ X, X = w.heap.size := ⟨_, rfl⟩
 obtain ⟨w1, hw1⟩ : ∃ w1, w1 = w.alloc (.cells #[.int .i64 5, .int .i64 ln, .int .i64 n, .string X, .slice a m c] 41) := ⟨_, rfl⟩
 have ka := Keeps.one w (.cells #[.int .i64 5, .int .i64 ln, .int .i64 n, .string X, .slice a m c] 41)
 have HX1 : Hid (Loc w1 (fun _ => False) P5 [.int .i64 5, .int .i64 ln, .int .i64 n, .string X, .slice a m c]) := Lib.hid (by rw [hw1, hP5]; exact Loc.new (fun h => h) [.int .i64 5, .int .i64 ln, .int .i64 n, .string X, .slice a m c] 41)
 have HP5 := Lib.hid hP5
 rw [← hP5]
 rw [← hw1] at ka ⊢
 have K1 := Lib.hid ka
 have b0 := HX1.out.cells 0 _ rfl
 have b3 := HX1.out.cells 3 _ rfl
 have b4 := HX1.out.cells 4 _ rfl
 clear ka hw1 hP5

 go_upto_region 6 with fail
 have FC : Hid (Calls Tryz.prog 46 #[.pointer (some ⟨q.P, 0, none⟩), .string X] w1 fun e w' => e = .returned (.tuple #[.agg #[.string { data := #[] }, .int .i64 0, .int .i64 0], .bool false]) ∧ Keeps (fun _ => False) w1 w') := Lib.hid (by
  have hc := pfind_any (HH.out.keep K1.out) x hV
  rw [← HXX.out] at hc
  have e : findV s.V x = .tuple #[.agg #[.string { data := #[] }, .int .i64 0, .int .i64 0], .bool false] := by unfold findV; rw [hv]; rfl
  rw [e] at hc
  exact hc)
 generalize q.P = P at FC ⊢
 clear hv hV hj
 go_wp2_with fail
 refine FC.out.mono ?_
 rintro e w2 ⟨rfl, k2⟩
 have K2 := Lib.hid (K1.out.trans k2 (fun _ _ h => h))
 clear FC K1 k2 b0 b3 b4 HX1
 go_wp2_with fail
 go_ret
 exact ⟨rfl, K2.out.trans (Keeps.one _ _) (fun _ _ h => h)⟩
set_option maxRecDepth 100000 in
set_option maxHeartbeats 16000000 in
theorem named_some5 {w : World} {q : CkQ} {nd : List Nd} {fs : List Fnc} {w0 : World} {R : Nat → Prop} {s : CkS} (h : Ck w q nd fs w0 R s) (j : Nat) (hj : j < q.m) (ln n : Int) (x : List UInt8) (a : Option Addr) (m c : Nat) (hV : s.V.length ≤ 1000) (v : Vb) (hv : lookV s.V x = some v) :
  Calls Tryz.prog 101 #[.pointer (some ⟨q.P, 0, none⟩), .int .i64 j, .agg #[.int .i64 5, .int .i64 ln, .int .i64 n, .string (ofL x), .slice a m c]] w fun e w' => e = .returned (.int .i64 0) ∧ Ck w' q nd fs w0 R { s with sl := s.sl.set j v.s } ∧ Fr R w R w' := by
 have HH := Lib.hid h
 clear h
 obtain ⟨X, hX⟩ : ∃ X, X = ofL x := ⟨_, rfl⟩
 have HXX := Lib.hid hX
 rw [← hX]
 clear hX
 go_enter Tryz.func101, Tryz.ntmps101
 go_upto_region 1 with fail

 obtain ⟨P5, hP5⟩ : ∃ X, X = w.heap.size := ⟨_, rfl⟩
 obtain ⟨w1, hw1⟩ : ∃ w1, w1 = w.alloc (.cells #[.int .i64 5, .int .i64 ln, .int .i64 n, .string X, .slice a m c] 41) := ⟨_, rfl⟩
 have ka := Keeps.one w (.cells #[.int .i64 5, .int .i64 ln, .int .i64 n, .string X, .slice a m c] 41)
 have HX1 : Hid (Loc w1 (fun _ => False) P5 [.int .i64 5, .int .i64 ln, .int .i64 n, .string X, .slice a m c]) := Lib.hid (by rw [hw1, hP5]; exact Loc.new (fun h => h) [.int .i64 5, .int .i64 ln, .int .i64 n, .string X, .slice a m c] 41)
 have HP5 := Lib.hid hP5
 rw [← hP5]
 rw [← hw1] at ka ⊢
 have K1 := Lib.hid ka
 have b0 := HX1.out.cells 0 _ rfl
 have b3 := HX1.out.cells 3 _ rfl
 have b4 := HX1.out.cells 4 _ rfl
 clear ka hw1 hP5

 go_upto_region 6 with fail
 obtain ⟨VX, hVX⟩ : ∃ X, X = ofL v.x := ⟨_, rfl⟩
 obtain ⟨vt, hvt⟩ : ∃ t, t = v.t := ⟨_, rfl⟩
 obtain ⟨vs, hvs⟩ : ∃ t, t = v.s := ⟨_, rfl⟩
 have FC : Hid (Calls Tryz.prog 46 #[.pointer (some ⟨q.P, 0, none⟩), .string X] w1 fun e w' => e = .returned (.tuple #[.agg #[.string VX, .int .i64 vt, .int .i64 vs], .bool true]) ∧ Keeps (fun _ => False) w1 w') := Lib.hid (by
  have hc := pfind_any (HH.out.keep K1.out) x hV
  rw [← HXX.out] at hc
  have e : findV s.V x = .tuple #[.agg #[.string VX, .int .i64 vt, .int .i64 vs], .bool true] := by unfold findV; rw [hv, hVX, hvt, hvs]
  rw [e] at hc
  exact hc)
 have HVS := Lib.hid hvs
 generalize hPP : q.P = P at FC ⊢
 have HPP := Lib.hid hPP
 clear hv hV hVX hvt hvs hPP
 go_wp2_with fail
 refine FC.out.mono ?_
 rintro e w2 ⟨rfl, k2⟩
 have K2 := Lib.hid (K1.out.trans k2 (fun _ _ h => h))
 clear FC K1 k2 b0 b3 b4 HX1
 go_upto_region 7 with fail
 obtain ⟨P7, hP7⟩ : ∃ X, X = w2.heap.size := ⟨_, rfl⟩
 obtain ⟨w3, hw3⟩ : ∃ w3, w3 = w2.alloc (.cells #[.string VX, .int .i64 vt, .int .i64 vs] 46) := ⟨_, rfl⟩
 have kb := Keeps.one w2 (.cells #[.string VX, .int .i64 vt, .int .i64 vs] 46)
 have HF : Hid (Loc w3 (fun _ => False) P7 [.string VX, .int .i64 vt, .int .i64 vs]) := Lib.hid (by rw [hw3, hP7]; exact Loc.new (fun h => h) [.string VX, .int .i64 vt, .int .i64 vs] 46)
 rw [← hP7]
 rw [← hw3] at kb ⊢
 have K3 := Lib.hid (K2.out.trans kb (fun _ _ h => h))
 have HC3 := Lib.hid (HH.out.keep K3.out)
 have f2 := HF.out.cells 2 _ rfl
 obtain ⟨v3, hx⟩ := HC3.out
 have c3 := hx.c3
 have hjs : j < s.sl.length := by rw [hx.lS]; exact hj
 obtain ⟨u, hu⟩ : ∃ u, u = s.sl[j] := ⟨_, rfl⟩
 have zc := hx.tS.cell j u (by rw [hu]; exact List.getElem?_eq_getElem hjs)
 have zf := hx.tS.fz j
 have HJ := Lib.hid hj
 rw [HPP.out] at c3
 have hi : (j : Int) < (q.m : Int) := by omega
 have hi0 : (0 : Int) ≤ (j : Int) := by omega
 generalize hSS : q.S = SS at c3 zc zf
 generalize q.m = M at c3 hi
 have HSS := Lib.hid hSS
 clear hx kb hw3 hP7 hj hjs hu hSS
 go_upto_region 9 with fail
 go_region
 have hset := HC3.out.setS j vs HJ.out
 rw [HSS.out] at hset
 have HZ : Hid (Ck ((w3.setCell ⟨SS, j, none⟩ (.int .i64 vs)).drew) q nd fs w0 R { s with sl := s.sl.set j v.s } ∧ Fr R w R ((w3.setCell ⟨SS, j, none⟩ (.int .i64 vs)).drew)) := Lib.hid (by rw [← HVS.out]; exact ⟨hset.1.keep ((Keeps.refl (fun _ => False) _).drew), ((((Fr.refl R w).keeps K3.out).trans hset.2)).keeps ((Keeps.refl (fun _ => False) _).drew)⟩)
 clear hset f2 c3 zc zf
 go_wp2_with fail
 go_ret
 exact ⟨rfl, HZ.out⟩
set_option maxRecDepth 100000 in
set_option maxHeartbeats 16000000 in
theorem named_none11 {w : World} {q : CkQ} {nd : List Nd} {fs : List Fnc} {w0 : World} {R : Nat → Prop} {s : CkS} (h : Ck w q nd fs w0 R s) (j : Nat) (hj : j < q.m) (ln n : Int) (x : List UInt8) (a : Option Addr) (m c : Nat) (hV : s.V.length ≤ 1000) (hv : lookV s.V x = none) :
  Calls Tryz.prog 101 #[.pointer (some ⟨q.P, 0, none⟩), .int .i64 j, .agg #[.int .i64 11, .int .i64 ln, .int .i64 n, .string (ofL x), .slice a m c]] w fun e w' => e = .returned (.int .i64 40) ∧ Keeps (fun _ => False) w w' := by
 have HH := Lib.hid h
 clear h
 obtain ⟨X, hX⟩ : ∃ X, X = ofL x := ⟨_, rfl⟩
 have HXX := Lib.hid hX
 rw [← hX]
 clear hX
 go_enter Tryz.func101, Tryz.ntmps101
 go_upto_region 1 with fail

 obtain ⟨P5, hP5⟩ : ∃ X, X = w.heap.size := ⟨_, rfl⟩
 obtain ⟨w1, hw1⟩ : ∃ w1, w1 = w.alloc (.cells #[.int .i64 11, .int .i64 ln, .int .i64 n, .string X, .slice a m c] 41) := ⟨_, rfl⟩
 have ka := Keeps.one w (.cells #[.int .i64 11, .int .i64 ln, .int .i64 n, .string X, .slice a m c] 41)
 have HX1 : Hid (Loc w1 (fun _ => False) P5 [.int .i64 11, .int .i64 ln, .int .i64 n, .string X, .slice a m c]) := Lib.hid (by rw [hw1, hP5]; exact Loc.new (fun h => h) [.int .i64 11, .int .i64 ln, .int .i64 n, .string X, .slice a m c] 41)
 have HP5 := Lib.hid hP5
 rw [← hP5]
 rw [← hw1] at ka ⊢
 have K1 := Lib.hid ka
 have b0 := HX1.out.cells 0 _ rfl
 have b3 := HX1.out.cells 3 _ rfl
 have b4 := HX1.out.cells 4 _ rfl
 clear ka hw1 hP5

 go_upto_region 6 with fail
 have FC : Hid (Calls Tryz.prog 46 #[.pointer (some ⟨q.P, 0, none⟩), .string X] w1 fun e w' => e = .returned (.tuple #[.agg #[.string { data := #[] }, .int .i64 0, .int .i64 0], .bool false]) ∧ Keeps (fun _ => False) w1 w') := Lib.hid (by
  have hc := pfind_any (HH.out.keep K1.out) x hV
  rw [← HXX.out] at hc
  have e : findV s.V x = .tuple #[.agg #[.string { data := #[] }, .int .i64 0, .int .i64 0], .bool false] := by unfold findV; rw [hv]; rfl
  rw [e] at hc
  exact hc)
 generalize q.P = P at FC ⊢
 clear hv hV hj
 go_wp2_with fail
 refine FC.out.mono ?_
 rintro e w2 ⟨rfl, k2⟩
 have K2 := Lib.hid (K1.out.trans k2 (fun _ _ h => h))
 clear FC K1 k2 b0 b3 b4 HX1
 go_wp2_with fail
 go_ret
 exact ⟨rfl, K2.out.trans (Keeps.one _ _) (fun _ _ h => h)⟩
set_option maxRecDepth 100000 in
set_option maxHeartbeats 16000000 in
theorem named_some11 {w : World} {q : CkQ} {nd : List Nd} {fs : List Fnc} {w0 : World} {R : Nat → Prop} {s : CkS} (h : Ck w q nd fs w0 R s) (j : Nat) (hj : j < q.m) (ln n : Int) (x : List UInt8) (a : Option Addr) (m c : Nat) (hV : s.V.length ≤ 1000) (v : Vb) (hv : lookV s.V x = some v) :
  Calls Tryz.prog 101 #[.pointer (some ⟨q.P, 0, none⟩), .int .i64 j, .agg #[.int .i64 11, .int .i64 ln, .int .i64 n, .string (ofL x), .slice a m c]] w fun e w' => e = .returned (.int .i64 0) ∧ Ck w' q nd fs w0 R { s with sl := s.sl.set j v.s } ∧ Fr R w R w' := by
 have HH := Lib.hid h
 clear h
 obtain ⟨X, hX⟩ : ∃ X, X = ofL x := ⟨_, rfl⟩
 have HXX := Lib.hid hX
 rw [← hX]
 clear hX
 go_enter Tryz.func101, Tryz.ntmps101
 go_upto_region 1 with fail

 obtain ⟨P5, hP5⟩ : ∃ X, X = w.heap.size := ⟨_, rfl⟩
 obtain ⟨w1, hw1⟩ : ∃ w1, w1 = w.alloc (.cells #[.int .i64 11, .int .i64 ln, .int .i64 n, .string X, .slice a m c] 41) := ⟨_, rfl⟩
 have ka := Keeps.one w (.cells #[.int .i64 11, .int .i64 ln, .int .i64 n, .string X, .slice a m c] 41)
 have HX1 : Hid (Loc w1 (fun _ => False) P5 [.int .i64 11, .int .i64 ln, .int .i64 n, .string X, .slice a m c]) := Lib.hid (by rw [hw1, hP5]; exact Loc.new (fun h => h) [.int .i64 11, .int .i64 ln, .int .i64 n, .string X, .slice a m c] 41)
 have HP5 := Lib.hid hP5
 rw [← hP5]
 rw [← hw1] at ka ⊢
 have K1 := Lib.hid ka
 have b0 := HX1.out.cells 0 _ rfl
 have b3 := HX1.out.cells 3 _ rfl
 have b4 := HX1.out.cells 4 _ rfl
 clear ka hw1 hP5

 go_upto_region 6 with fail
 obtain ⟨VX, hVX⟩ : ∃ X, X = ofL v.x := ⟨_, rfl⟩
 obtain ⟨vt, hvt⟩ : ∃ t, t = v.t := ⟨_, rfl⟩
 obtain ⟨vs, hvs⟩ : ∃ t, t = v.s := ⟨_, rfl⟩
 have FC : Hid (Calls Tryz.prog 46 #[.pointer (some ⟨q.P, 0, none⟩), .string X] w1 fun e w' => e = .returned (.tuple #[.agg #[.string VX, .int .i64 vt, .int .i64 vs], .bool true]) ∧ Keeps (fun _ => False) w1 w') := Lib.hid (by
  have hc := pfind_any (HH.out.keep K1.out) x hV
  rw [← HXX.out] at hc
  have e : findV s.V x = .tuple #[.agg #[.string VX, .int .i64 vt, .int .i64 vs], .bool true] := by unfold findV; rw [hv, hVX, hvt, hvs]
  rw [e] at hc
  exact hc)
 have HVS := Lib.hid hvs
 generalize hPP : q.P = P at FC ⊢
 have HPP := Lib.hid hPP
 clear hv hV hVX hvt hvs hPP
 go_wp2_with fail
 refine FC.out.mono ?_
 rintro e w2 ⟨rfl, k2⟩
 have K2 := Lib.hid (K1.out.trans k2 (fun _ _ h => h))
 clear FC K1 k2 b0 b3 b4 HX1
 go_upto_region 7 with fail
 obtain ⟨P7, hP7⟩ : ∃ X, X = w2.heap.size := ⟨_, rfl⟩
 obtain ⟨w3, hw3⟩ : ∃ w3, w3 = w2.alloc (.cells #[.string VX, .int .i64 vt, .int .i64 vs] 46) := ⟨_, rfl⟩
 have kb := Keeps.one w2 (.cells #[.string VX, .int .i64 vt, .int .i64 vs] 46)
 have HF : Hid (Loc w3 (fun _ => False) P7 [.string VX, .int .i64 vt, .int .i64 vs]) := Lib.hid (by rw [hw3, hP7]; exact Loc.new (fun h => h) [.string VX, .int .i64 vt, .int .i64 vs] 46)
 rw [← hP7]
 rw [← hw3] at kb ⊢
 have K3 := Lib.hid (K2.out.trans kb (fun _ _ h => h))
 have HC3 := Lib.hid (HH.out.keep K3.out)
 have f2 := HF.out.cells 2 _ rfl
 obtain ⟨v3, hx⟩ := HC3.out
 have c3 := hx.c3
 have hjs : j < s.sl.length := by rw [hx.lS]; exact hj
 obtain ⟨u, hu⟩ : ∃ u, u = s.sl[j] := ⟨_, rfl⟩
 have zc := hx.tS.cell j u (by rw [hu]; exact List.getElem?_eq_getElem hjs)
 have zf := hx.tS.fz j
 have HJ := Lib.hid hj
 rw [HPP.out] at c3
 have hi : (j : Int) < (q.m : Int) := by omega
 have hi0 : (0 : Int) ≤ (j : Int) := by omega
 generalize hSS : q.S = SS at c3 zc zf
 generalize q.m = M at c3 hi
 have HSS := Lib.hid hSS
 clear hx kb hw3 hP7 hj hjs hu hSS
 go_upto_region 9 with fail
 go_region
 have hset := HC3.out.setS j vs HJ.out
 rw [HSS.out] at hset
 have HZ : Hid (Ck ((w3.setCell ⟨SS, j, none⟩ (.int .i64 vs)).drew) q nd fs w0 R { s with sl := s.sl.set j v.s } ∧ Fr R w R ((w3.setCell ⟨SS, j, none⟩ (.int .i64 vs)).drew)) := Lib.hid (by rw [← HVS.out]; exact ⟨hset.1.keep ((Keeps.refl (fun _ => False) _).drew), ((((Fr.refl R w).keeps K3.out).trans hset.2)).keeps ((Keeps.refl (fun _ => False) _).drew)⟩)
 clear hset f2 c3 zc zf
 go_wp2_with fail
 go_ret
 exact ⟨rfl, HZ.out⟩
set_option maxRecDepth 100000 in
set_option maxHeartbeats 16000000 in
theorem named_none12 {w : World} {q : CkQ} {nd : List Nd} {fs : List Fnc} {w0 : World} {R : Nat → Prop} {s : CkS} (h : Ck w q nd fs w0 R s) (j : Nat) (hj : j < q.m) (ln n : Int) (x : List UInt8) (a : Option Addr) (m c : Nat) (hV : s.V.length ≤ 1000) (hv : lookV s.V x = none) :
  Calls Tryz.prog 101 #[.pointer (some ⟨q.P, 0, none⟩), .int .i64 j, .agg #[.int .i64 12, .int .i64 ln, .int .i64 n, .string (ofL x), .slice a m c]] w fun e w' => e = .returned (.int .i64 40) ∧ Keeps (fun _ => False) w w' := by
 have HH := Lib.hid h
 clear h
 obtain ⟨X, hX⟩ : ∃ X, X = ofL x := ⟨_, rfl⟩
 have HXX := Lib.hid hX
 rw [← hX]
 clear hX
 go_enter Tryz.func101, Tryz.ntmps101
 go_upto_region 1 with fail

 obtain ⟨P5, hP5⟩ : ∃ X, X = w.heap.size := ⟨_, rfl⟩
 obtain ⟨w1, hw1⟩ : ∃ w1, w1 = w.alloc (.cells #[.int .i64 12, .int .i64 ln, .int .i64 n, .string X, .slice a m c] 41) := ⟨_, rfl⟩
 have ka := Keeps.one w (.cells #[.int .i64 12, .int .i64 ln, .int .i64 n, .string X, .slice a m c] 41)
 have HX1 : Hid (Loc w1 (fun _ => False) P5 [.int .i64 12, .int .i64 ln, .int .i64 n, .string X, .slice a m c]) := Lib.hid (by rw [hw1, hP5]; exact Loc.new (fun h => h) [.int .i64 12, .int .i64 ln, .int .i64 n, .string X, .slice a m c] 41)
 have HP5 := Lib.hid hP5
 rw [← hP5]
 rw [← hw1] at ka ⊢
 have K1 := Lib.hid ka
 have b0 := HX1.out.cells 0 _ rfl
 have b3 := HX1.out.cells 3 _ rfl
 have b4 := HX1.out.cells 4 _ rfl
 clear ka hw1 hP5

 go_upto_region 6 with fail
 have FC : Hid (Calls Tryz.prog 46 #[.pointer (some ⟨q.P, 0, none⟩), .string X] w1 fun e w' => e = .returned (.tuple #[.agg #[.string { data := #[] }, .int .i64 0, .int .i64 0], .bool false]) ∧ Keeps (fun _ => False) w1 w') := Lib.hid (by
  have hc := pfind_any (HH.out.keep K1.out) x hV
  rw [← HXX.out] at hc
  have e : findV s.V x = .tuple #[.agg #[.string { data := #[] }, .int .i64 0, .int .i64 0], .bool false] := by unfold findV; rw [hv]; rfl
  rw [e] at hc
  exact hc)
 generalize q.P = P at FC ⊢
 clear hv hV hj
 go_wp2_with fail
 refine FC.out.mono ?_
 rintro e w2 ⟨rfl, k2⟩
 have K2 := Lib.hid (K1.out.trans k2 (fun _ _ h => h))
 clear FC K1 k2 b0 b3 b4 HX1
 go_wp2_with fail
 go_ret
 exact ⟨rfl, K2.out.trans (Keeps.one _ _) (fun _ _ h => h)⟩
set_option maxRecDepth 100000 in
set_option maxHeartbeats 16000000 in
theorem named_some12 {w : World} {q : CkQ} {nd : List Nd} {fs : List Fnc} {w0 : World} {R : Nat → Prop} {s : CkS} (h : Ck w q nd fs w0 R s) (j : Nat) (hj : j < q.m) (ln n : Int) (x : List UInt8) (a : Option Addr) (m c : Nat) (hV : s.V.length ≤ 1000) (v : Vb) (hv : lookV s.V x = some v) :
  Calls Tryz.prog 101 #[.pointer (some ⟨q.P, 0, none⟩), .int .i64 j, .agg #[.int .i64 12, .int .i64 ln, .int .i64 n, .string (ofL x), .slice a m c]] w fun e w' => e = .returned (.int .i64 0) ∧ Ck w' q nd fs w0 R { s with sl := s.sl.set j v.s } ∧ Fr R w R w' := by
 have HH := Lib.hid h
 clear h
 obtain ⟨X, hX⟩ : ∃ X, X = ofL x := ⟨_, rfl⟩
 have HXX := Lib.hid hX
 rw [← hX]
 clear hX
 go_enter Tryz.func101, Tryz.ntmps101
 go_upto_region 1 with fail

 obtain ⟨P5, hP5⟩ : ∃ X, X = w.heap.size := ⟨_, rfl⟩
 obtain ⟨w1, hw1⟩ : ∃ w1, w1 = w.alloc (.cells #[.int .i64 12, .int .i64 ln, .int .i64 n, .string X, .slice a m c] 41) := ⟨_, rfl⟩
 have ka := Keeps.one w (.cells #[.int .i64 12, .int .i64 ln, .int .i64 n, .string X, .slice a m c] 41)
 have HX1 : Hid (Loc w1 (fun _ => False) P5 [.int .i64 12, .int .i64 ln, .int .i64 n, .string X, .slice a m c]) := Lib.hid (by rw [hw1, hP5]; exact Loc.new (fun h => h) [.int .i64 12, .int .i64 ln, .int .i64 n, .string X, .slice a m c] 41)
 have HP5 := Lib.hid hP5
 rw [← hP5]
 rw [← hw1] at ka ⊢
 have K1 := Lib.hid ka
 have b0 := HX1.out.cells 0 _ rfl
 have b3 := HX1.out.cells 3 _ rfl
 have b4 := HX1.out.cells 4 _ rfl
 clear ka hw1 hP5

 go_upto_region 6 with fail
 obtain ⟨VX, hVX⟩ : ∃ X, X = ofL v.x := ⟨_, rfl⟩
 obtain ⟨vt, hvt⟩ : ∃ t, t = v.t := ⟨_, rfl⟩
 obtain ⟨vs, hvs⟩ : ∃ t, t = v.s := ⟨_, rfl⟩
 have FC : Hid (Calls Tryz.prog 46 #[.pointer (some ⟨q.P, 0, none⟩), .string X] w1 fun e w' => e = .returned (.tuple #[.agg #[.string VX, .int .i64 vt, .int .i64 vs], .bool true]) ∧ Keeps (fun _ => False) w1 w') := Lib.hid (by
  have hc := pfind_any (HH.out.keep K1.out) x hV
  rw [← HXX.out] at hc
  have e : findV s.V x = .tuple #[.agg #[.string VX, .int .i64 vt, .int .i64 vs], .bool true] := by unfold findV; rw [hv, hVX, hvt, hvs]
  rw [e] at hc
  exact hc)
 have HVS := Lib.hid hvs
 generalize hPP : q.P = P at FC ⊢
 have HPP := Lib.hid hPP
 clear hv hV hVX hvt hvs hPP
 go_wp2_with fail
 refine FC.out.mono ?_
 rintro e w2 ⟨rfl, k2⟩
 have K2 := Lib.hid (K1.out.trans k2 (fun _ _ h => h))
 clear FC K1 k2 b0 b3 b4 HX1
 go_upto_region 7 with fail
 obtain ⟨P7, hP7⟩ : ∃ X, X = w2.heap.size := ⟨_, rfl⟩
 obtain ⟨w3, hw3⟩ : ∃ w3, w3 = w2.alloc (.cells #[.string VX, .int .i64 vt, .int .i64 vs] 46) := ⟨_, rfl⟩
 have kb := Keeps.one w2 (.cells #[.string VX, .int .i64 vt, .int .i64 vs] 46)
 have HF : Hid (Loc w3 (fun _ => False) P7 [.string VX, .int .i64 vt, .int .i64 vs]) := Lib.hid (by rw [hw3, hP7]; exact Loc.new (fun h => h) [.string VX, .int .i64 vt, .int .i64 vs] 46)
 rw [← hP7]
 rw [← hw3] at kb ⊢
 have K3 := Lib.hid (K2.out.trans kb (fun _ _ h => h))
 have HC3 := Lib.hid (HH.out.keep K3.out)
 have f2 := HF.out.cells 2 _ rfl
 obtain ⟨v3, hx⟩ := HC3.out
 have c3 := hx.c3
 have hjs : j < s.sl.length := by rw [hx.lS]; exact hj
 obtain ⟨u, hu⟩ : ∃ u, u = s.sl[j] := ⟨_, rfl⟩
 have zc := hx.tS.cell j u (by rw [hu]; exact List.getElem?_eq_getElem hjs)
 have zf := hx.tS.fz j
 have HJ := Lib.hid hj
 rw [HPP.out] at c3
 have hi : (j : Int) < (q.m : Int) := by omega
 have hi0 : (0 : Int) ≤ (j : Int) := by omega
 generalize hSS : q.S = SS at c3 zc zf
 generalize q.m = M at c3 hi
 have HSS := Lib.hid hSS
 clear hx kb hw3 hP7 hj hjs hu hSS
 go_upto_region 9 with fail
 go_region
 have hset := HC3.out.setS j vs HJ.out
 rw [HSS.out] at hset
 have HZ : Hid (Ck ((w3.setCell ⟨SS, j, none⟩ (.int .i64 vs)).drew) q nd fs w0 R { s with sl := s.sl.set j v.s } ∧ Fr R w R ((w3.setCell ⟨SS, j, none⟩ (.int .i64 vs)).drew)) := Lib.hid (by rw [← HVS.out]; exact ⟨hset.1.keep ((Keeps.refl (fun _ => False) _).drew), ((((Fr.refl R w).keeps K3.out).trans hset.2)).keeps ((Keeps.refl (fun _ => False) _).drew)⟩)
 clear hset f2 c3 zc zf
 go_wp2_with fail
 go_ret
 exact ⟨rfl, HZ.out⟩
end Go.Proofs.YtbhpnioggpgbhaaGreatDoor
