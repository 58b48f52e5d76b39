/-
 Layer 4: the program's named, the rest. Written by an AI agent.
 Layer 4: the program's let. Written by an AI agent.
 Layer 4: the program's below. Written by an AI agent.
-/
import Derived.Test.YtbhpnioggpgbhaaGreatDoorMcav
namespace Go.Proofs.YtbhpnioggpgbhaaGreatDoor
open Go Go.RowKit Go.Shelf
set_option linter.unusedVariables false
set_option linter.unusedSimpArgs false
theorem idx_look {fs : List Fnc} {x : List UInt8} : (lookF fs x = none → idxF fs x = -1) ∧ ∀ f, lookF fs x = some f → ∃ i : Nat, idxF fs x = (i : Int) ∧ fs[i]? = some f := by
 unfold lookF idxF
 induction fs with
 | nil => exact ⟨fun _ => rfl, fun f h => absurd h (by simp)⟩
 | cons a l ih =>
  rw [List.find?_cons, List.findIdx?_cons]
  by_cases e : a.s = x
  ·have hd : decide (a.s = x) = true := decide_eq_true e
   simp only [hd, if_true]
   exact ⟨fun h => absurd h (by simp), fun f h => ⟨0, rfl, h⟩⟩
  ·have hd : decide (a.s = x) = false := decide_eq_false e
   simp only [hd, if_false, Bool.false_eq_true]
   obtain ⟨h1, h2⟩ := ih
   cases hq : l.findIdx? (fun f => decide (f.s = x)) with
   | none =>
    rw [hq] at h1 h2
    refine ⟨fun h => rfl, fun f h => ?_⟩
    obtain ⟨i, e1, _⟩ := h2 f h
    exact absurd (show (-1 : Int) = i from e1) (by omega)
   | some k =>
    rw [hq] at h1 h2
    refine ⟨fun h => absurd (show (k : Int) = -1 from h1 h) (by omega), fun f h => ?_⟩
    obtain ⟨i, e1, e2⟩ := h2 f h
    have e1 : (k : Int) = i := e1
    have e1 : k = i := by omega
    subst e1
    exact ⟨k + 1, rfl, e2⟩
set_option maxRecDepth 100000 in
set_option maxHeartbeats 16000000 in
theorem named_fn_some {w : World} {q : CkQ} {nd : List Nd} {fs : List Fnc} {w0 : World} {R : Nat → Prop} {s : CkS} (h : Ck w q nd fs w0 R s) (j : Nat) (ln n : Int) (x : List UInt8) (a : Option Addr) (m c : Nat) (hk6 : fs.length ≤ 1000) (hv : (lookF fs x).isSome = true) :
  Calls Tryz.prog 101 #[.pointer (some ⟨q.P, 0, none⟩), .int .i64 j, .agg #[.int .i64 21, .int .i64 ln, .int .i64 n, .string (ofL x), .slice a m c]] w fun e w' => e = .returned (.int .i64 0) ∧ Keeps (fun _ => False) w w' := by
 have HH := Lib.hid h
 clear h
 obtain ⟨X, hX⟩ : ∃ X, X = ofL x := ⟨_, rfl⟩
 have HXX := Lib.hid hX
 rw [← hX]
 clear hX
 obtain ⟨I, hI⟩ : ∃ I, I = idxF fs x := ⟨_, rfl⟩
 have FC0 : Hid (∀ w', Keeps (fun _ => False) w w' → Calls Tryz.prog 45 #[.agg #[.slice q.A q.m q.c, .slice q.A' q.k q.c'], .string X] w' fun e w'' => e = .returned (.int .i64 I) ∧ Keeps (fun _ => False) w' w'') := Lib.hid (fun w' k => by
  have hc := HH.out.keep k
  obtain ⟨_, hx⟩ := HH.out
  have := pfun_any nd fs q.A q.A' q.m q.k q.c q.c' x hx.hk (by rw [hx.hk]; exact hk6) w' hc.treeR
  rw [← HXX.out, ← hI] at this
  exact this)
 have hI : 0 ≤ I := by
  rw [hI]
  obtain ⟨f, hf⟩ := Option.isSome_iff_exists.1 hv
  obtain ⟨i, e, _⟩ := idx_look.2 f hf
  omega
 obtain ⟨v0, hx⟩ := HH.out
 have c0 := hx.c0
 have c1 := hx.c1
 clear hx
 generalize q.P = P at c0 c1 ⊢
 generalize q.A = A at c0 FC0
 generalize q.m = M at c0 FC0
 generalize q.c = cc at c0 FC0
 generalize q.A' = A' at c1 FC0
 generalize q.k = KN at c1 FC0
 generalize q.c' = cd at c1 FC0
 clear hv hk6 HH
 go_enter Tryz.func101, Tryz.ntmps101
 go_upto_region 1 with fail

 obtain ⟨P5, hP5⟩ : ∃ X, X = w.heap.size := ⟨_, rfl⟩
 obtain ⟨w1, hw1⟩ : ∃ w1, w1 = w.alloc (.cells #[.int .i64 21, .int .i64 ln, .int .i64 n, .string X, .slice a m c] 41) := ⟨_, rfl⟩
 have ka := Keeps.one w (.cells #[.int .i64 21, .int .i64 ln, .int .i64 n, .string X, .slice a m c] 41)
 have HX1 : Hid (Loc w1 (fun _ => False) P5 [.int .i64 21, .int .i64 ln, .int .i64 n, .string X, .slice a m c]) := Lib.hid (by rw [hw1, hP5]; exact Loc.new (fun h => h) [.int .i64 21, .int .i64 ln, .int .i64 n, .string X, .slice a m c] 41)
 have HP5 := Lib.hid hP5
 rw [← hP5]
 rw [← hw1] at ka ⊢
 have K1 := Lib.hid ka
 have b0 := HX1.out.cells 0 _ rfl
 have b3 := HX1.out.cells 3 _ rfl
 have b4 := HX1.out.cells 4 _ rfl
 clear ka hw1 hP5

 replace c0 := (K1.out.cell (cell_ltk c0) (fun h => h)).trans c0
 replace c1 := (K1.out.cell (cell_ltk c1) (fun h => h)).trans c1
 have FC : Hid (∀ w', Keeps (fun _ => False) w1 w' → Calls Tryz.prog 45 #[.agg #[.slice A M cc, .slice A' KN cd], .string X] w' fun e w'' => e = .returned (.int .i64 I) ∧ Keeps (fun _ => False) w1 w'') := Lib.hid (fun w' k => (FC0.out w' (K1.out.trans k (fun _ _ h => h))).mono (fun e w'' h => ⟨h.1, k.trans h.2 (fun _ _ h => h)⟩))
 go_upto_region 11 with fail
 have SK : Hid (∀ w', Keeps (fun _ => False) w1 w' → (w'.cell? ⟨P, 0, none⟩ = some (.slice A M cc) ∧ w'.cell? ⟨P, 1, none⟩ = some (.slice A' KN cd) ∧ w'.cell? ⟨P5, 3, none⟩ = some (.string X)) ∧ Keeps (fun _ => False) w1 w') := Lib.hid (fun w' q => ⟨⟨(q.cell (cell_ltk c0) (fun h => h)).trans c0, (q.cell (cell_ltk c1) (fun h => h)).trans c1, (q.cell (cell_ltk b3) (fun h => h)).trans b3⟩, q⟩)
 clear c0 c1 b3
 go_wp2_with fail
 go_region_held3 (fun w' => (w'.cell? ⟨P, 0, none⟩ = some (.slice A M cc) ∧ w'.cell? ⟨P, 1, none⟩ = some (.slice A' KN cd) ∧ w'.cell? ⟨P5, 3, none⟩ = some (.string X)) ∧ Keeps (fun _ => False) w1 w') (first | exact SK.out _ (Keeps.refl _ _) | exact SK.out _ (by assumption) | exact SK.out _ ((Keeps.refl _ _).drew) | exact SK.out _ (Keeps.drew (by assumption))) (first | (go_at_call 45; refine (FC.out _ (by first | assumption | exact (Keeps.refl _ _).drew | exact Keeps.drew (by assumption) | exact Keeps.refl _ _)).mono ?_; rintro e w3 ⟨rfl, k3⟩))
 all_goals go_wp2_with fail
 all_goals go_ret
 all_goals exact ⟨rfl, K1.out.trans (by first | assumption | exact Keeps.drew (by assumption)) (fun _ _ h => h)⟩
set_option maxRecDepth 100000 in
set_option maxHeartbeats 16000000 in
theorem named_fn_none {w : World} {q : CkQ} {nd : List Nd} {fs : List Fnc} {w0 : World} {R : Nat → Prop} {s : CkS} (h : Ck w q nd fs w0 R s) (j : Nat) (ln n : Int) (x : List UInt8) (a : Option Addr) (m c : Nat) (hk6 : fs.length ≤ 1000) (hv : lookF fs x = none) :
  Calls Tryz.prog 101 #[.pointer (some ⟨q.P, 0, none⟩), .int .i64 j, .agg #[.int .i64 21, .int .i64 ln, .int .i64 n, .string (ofL x), .slice a m c]] w fun e w' => e = .returned (.int .i64 40) ∧ Keeps (fun _ => False) w w' := by
 have HH := Lib.hid h
 clear h
 obtain ⟨X, hX⟩ : ∃ X, X = ofL x := ⟨_, rfl⟩
 have HXX := Lib.hid hX
 rw [← hX]
 clear hX
 obtain ⟨I, hI⟩ : ∃ I, I = idxF fs x := ⟨_, rfl⟩
 have FC0 : Hid (∀ w', Keeps (fun _ => False) w w' → Calls Tryz.prog 45 #[.agg #[.slice q.A q.m q.c, .slice q.A' q.k q.c'], .string X] w' fun e w'' => e = .returned (.int .i64 I) ∧ Keeps (fun _ => False) w' w'') := Lib.hid (fun w' k => by
  have hc := HH.out.keep k
  obtain ⟨_, hx⟩ := HH.out
  have := pfun_any nd fs q.A q.A' q.m q.k q.c q.c' x hx.hk (by rw [hx.hk]; exact hk6) w' hc.treeR
  rw [← HXX.out, ← hI] at this
  exact this)
 have hI : I < 0 := by
  rw [hI, idx_look.1 hv]
  omega
 obtain ⟨v0, hx⟩ := HH.out
 have c0 := hx.c0
 have c1 := hx.c1
 clear hx
 generalize q.P = P at c0 c1 ⊢
 generalize q.A = A at c0 FC0
 generalize q.m = M at c0 FC0
 generalize q.c = cc at c0 FC0
 generalize q.A' = A' at c1 FC0
 generalize q.k = KN at c1 FC0
 generalize q.c' = cd at c1 FC0
 clear hv hk6 HH
 go_enter Tryz.func101, Tryz.ntmps101
 go_upto_region 1 with fail

 obtain ⟨P5, hP5⟩ : ∃ X, X = w.heap.size := ⟨_, rfl⟩
 obtain ⟨w1, hw1⟩ : ∃ w1, w1 = w.alloc (.cells #[.int .i64 21, .int .i64 ln, .int .i64 n, .string X, .slice a m c] 41) := ⟨_, rfl⟩
 have ka := Keeps.one w (.cells #[.int .i64 21, .int .i64 ln, .int .i64 n, .string X, .slice a m c] 41)
 have HX1 : Hid (Loc w1 (fun _ => False) P5 [.int .i64 21, .int .i64 ln, .int .i64 n, .string X, .slice a m c]) := Lib.hid (by rw [hw1, hP5]; exact Loc.new (fun h => h) [.int .i64 21, .int .i64 ln, .int .i64 n, .string X, .slice a m c] 41)
 have HP5 := Lib.hid hP5
 rw [← hP5]
 rw [← hw1] at ka ⊢
 have K1 := Lib.hid ka
 have b0 := HX1.out.cells 0 _ rfl
 have b3 := HX1.out.cells 3 _ rfl
 have b4 := HX1.out.cells 4 _ rfl
 clear ka hw1 hP5

 replace c0 := (K1.out.cell (cell_ltk c0) (fun h => h)).trans c0
 replace c1 := (K1.out.cell (cell_ltk c1) (fun h => h)).trans c1
 have FC : Hid (∀ w', Keeps (fun _ => False) w1 w' → Calls Tryz.prog 45 #[.agg #[.slice A M cc, .slice A' KN cd], .string X] w' fun e w'' => e = .returned (.int .i64 I) ∧ Keeps (fun _ => False) w1 w'') := Lib.hid (fun w' k => (FC0.out w' (K1.out.trans k (fun _ _ h => h))).mono (fun e w'' h => ⟨h.1, k.trans h.2 (fun _ _ h => h)⟩))
 go_upto_region 11 with fail
 have SK : Hid (∀ w', Keeps (fun _ => False) w1 w' → (w'.cell? ⟨P, 0, none⟩ = some (.slice A M cc) ∧ w'.cell? ⟨P, 1, none⟩ = some (.slice A' KN cd) ∧ w'.cell? ⟨P5, 3, none⟩ = some (.string X)) ∧ Keeps (fun _ => False) w1 w') := Lib.hid (fun w' q => ⟨⟨(q.cell (cell_ltk c0) (fun h => h)).trans c0, (q.cell (cell_ltk c1) (fun h => h)).trans c1, (q.cell (cell_ltk b3) (fun h => h)).trans b3⟩, q⟩)
 clear c0 c1 b3
 go_wp2_with fail
 go_region_held3 (fun w' => (w'.cell? ⟨P, 0, none⟩ = some (.slice A M cc) ∧ w'.cell? ⟨P, 1, none⟩ = some (.slice A' KN cd) ∧ w'.cell? ⟨P5, 3, none⟩ = some (.string X)) ∧ Keeps (fun _ => False) w1 w') (first | exact SK.out _ (Keeps.refl _ _) | exact SK.out _ (by assumption) | exact SK.out _ ((Keeps.refl _ _).drew) | exact SK.out _ (Keeps.drew (by assumption))) (first | (go_at_call 45; refine (FC.out _ (by first | assumption | exact (Keeps.refl _ _).drew | exact Keeps.drew (by assumption) | exact Keeps.refl _ _)).mono ?_; rintro e w3 ⟨rfl, k3⟩))
 all_goals go_wp2_with fail
 all_goals go_ret
 all_goals exact ⟨rfl, K1.out.trans (by first | assumption | exact Keeps.drew (by assumption)) (fun _ _ h => h)⟩
set_option maxRecDepth 100000 in
set_option maxHeartbeats 16000000 in
theorem named_ret_zz {w : World} {q : CkQ} {nd : List Nd} {fs : List Fnc} {w0 : World} {R : Nat → Prop} {s : CkS} (h : Ck w q nd fs w0 R s) (j : Nat) (ln n : Int) (x : List UInt8) (a : Option Addr) (m c : Nat) (f : Nat) (F : Fnc) (hfn : s.fn = (f : Int)) (hF : fs[f]? = some F) (hm : m = 0) (hr : F.ret = 0) (hk6 : fs.length ≤ 1000) :
  Calls Tryz.prog 101 #[.pointer (some ⟨q.P, 0, none⟩), .int .i64 j, .agg #[.int .i64 17, .int .i64 ln, .int .i64 n, .string (ofL x), .slice a m c]] w fun e w' => e = .returned (.int .i64 0) ∧ Keeps (fun _ => False) w w' := by
 have HH := Lib.hid h
 clear h
 obtain ⟨X, hX⟩ : ∃ X, X = ofL x := ⟨_, rfl⟩
 have HXX := Lib.hid hX
 rw [← hX]
 clear hX
 obtain ⟨hfl, hfe⟩ := List.getElem?_eq_some_iff.1 hF
 obtain ⟨b, off, hA, hc⟩ := HH.out.treeR.fnAt (by omega)
 obtain ⟨fa, fc, d0, d1, d2, d3, d4, d5⟩ := hc f hfl
 clear d0 d1 d2 d4 d5
 rw [hfe] at d3
 obtain ⟨v0, hx⟩ := HH.out
 have c1 := hx.c1
 have c7 := hx.c7
 rw [hfn] at c7
 rw [hA] at c1
 have hi : (f : Int) < (q.k : Int) := by rw [hx.hk]; omega
 have hi0 : (0 : Int) ≤ (f : Int) := by omega
 generalize q.P = P at c1 c7 ⊢
 generalize q.k = KN at c1 hi
 generalize q.c' = cd at c1
 rw [hr] at d3
 subst hm
 skip
 clear hx hA hc HH hfn hF hfl hfe hk6
 go_enter Tryz.func101, Tryz.ntmps101
 go_upto_region 1 with fail

 obtain ⟨P5, hP5⟩ : ∃ X, X = w.heap.size := ⟨_, rfl⟩
 obtain ⟨w1, hw1⟩ : ∃ w1, w1 = w.alloc (.cells #[.int .i64 17, .int .i64 ln, .int .i64 n, .string X, .slice a 0 c] 41) := ⟨_, rfl⟩
 have ka := Keeps.one w (.cells #[.int .i64 17, .int .i64 ln, .int .i64 n, .string X, .slice a 0 c] 41)
 have HX1 : Hid (Loc w1 (fun _ => False) P5 [.int .i64 17, .int .i64 ln, .int .i64 n, .string X, .slice a 0 c]) := Lib.hid (by rw [hw1, hP5]; exact Loc.new (fun h => h) [.int .i64 17, .int .i64 ln, .int .i64 n, .string X, .slice a 0 c] 41)
 have HP5 := Lib.hid hP5
 rw [← hP5]
 rw [← hw1] at ka ⊢
 have K1 := Lib.hid ka
 have b0 := HX1.out.cells 0 _ rfl
 have b3 := HX1.out.cells 3 _ rfl
 have b4 := HX1.out.cells 4 _ rfl
 clear ka hw1 hP5

 replace c1 := (K1.out.cell (cell_ltk c1) (fun h => h)).trans c1
 replace c7 := (K1.out.cell (cell_ltk c7) (fun h => h)).trans c7
 replace d3 := (K1.out.cell (cell_ltk d3) (fun h => h)).trans d3
 go_upto_region 14 with fail
 go_quiet (fail)
 go_wp2_with fail
 go_ret
 exact ⟨rfl, K1.out.trans (drewN_keeps _ _) (fun _ _ h => h)⟩
set_option maxRecDepth 100000 in
set_option maxHeartbeats 16000000 in
theorem named_ret_zr {w : World} {q : CkQ} {nd : List Nd} {fs : List Fnc} {w0 : World} {R : Nat → Prop} {s : CkS} (h : Ck w q nd fs w0 R s) (j : Nat) (ln n : Int) (x : List UInt8) (a : Option Addr) (m c : Nat) (f : Nat) (F : Fnc) (hfn : s.fn = (f : Int)) (hF : fs[f]? = some F) (hm : m = 0) (hr : F.ret ≠ 0) (hk6 : fs.length ≤ 1000) :
  Calls Tryz.prog 101 #[.pointer (some ⟨q.P, 0, none⟩), .int .i64 j, .agg #[.int .i64 17, .int .i64 ln, .int .i64 n, .string (ofL x), .slice a m c]] w fun e w' => e = .returned (.int .i64 43) ∧ Keeps (fun _ => False) w w' := by
 have HH := Lib.hid h
 clear h
 obtain ⟨X, hX⟩ : ∃ X, X = ofL x := ⟨_, rfl⟩
 have HXX := Lib.hid hX
 rw [← hX]
 clear hX
 obtain ⟨hfl, hfe⟩ := List.getElem?_eq_some_iff.1 hF
 obtain ⟨b, off, hA, hc⟩ := HH.out.treeR.fnAt (by omega)
 obtain ⟨fa, fc, d0, d1, d2, d3, d4, d5⟩ := hc f hfl
 clear d0 d1 d2 d4 d5
 rw [hfe] at d3
 obtain ⟨v0, hx⟩ := HH.out
 have c1 := hx.c1
 have c7 := hx.c7
 rw [hfn] at c7
 rw [hA] at c1
 have hi : (f : Int) < (q.k : Int) := by rw [hx.hk]; omega
 have hi0 : (0 : Int) ≤ (f : Int) := by omega
 generalize q.P = P at c1 c7 ⊢
 generalize q.k = KN at c1 hi
 generalize q.c' = cd at c1
 obtain ⟨rt, hrt⟩ : ∃ r, r = F.ret := ⟨_, rfl⟩
 subst hm
 skip
 rw [← hrt] at d3 hr
 have hrb : (rt == 0) = false := by simpa using hr
 clear hrt
 clear hx hA hc HH hfn hF hfl hfe hk6
 go_enter Tryz.func101, Tryz.ntmps101
 go_upto_region 1 with fail

 obtain ⟨P5, hP5⟩ : ∃ X, X = w.heap.size := ⟨_, rfl⟩
 obtain ⟨w1, hw1⟩ : ∃ w1, w1 = w.alloc (.cells #[.int .i64 17, .int .i64 ln, .int .i64 n, .string X, .slice a 0 c] 41) := ⟨_, rfl⟩
 have ka := Keeps.one w (.cells #[.int .i64 17, .int .i64 ln, .int .i64 n, .string X, .slice a 0 c] 41)
 have HX1 : Hid (Loc w1 (fun _ => False) P5 [.int .i64 17, .int .i64 ln, .int .i64 n, .string X, .slice a 0 c]) := Lib.hid (by rw [hw1, hP5]; exact Loc.new (fun h => h) [.int .i64 17, .int .i64 ln, .int .i64 n, .string X, .slice a 0 c] 41)
 have HP5 := Lib.hid hP5
 rw [← hP5]
 rw [← hw1] at ka ⊢
 have K1 := Lib.hid ka
 have b0 := HX1.out.cells 0 _ rfl
 have b3 := HX1.out.cells 3 _ rfl
 have b4 := HX1.out.cells 4 _ rfl
 clear ka hw1 hP5

 replace c1 := (K1.out.cell (cell_ltk c1) (fun h => h)).trans c1
 replace c7 := (K1.out.cell (cell_ltk c7) (fun h => h)).trans c7
 replace d3 := (K1.out.cell (cell_ltk d3) (fun h => h)).trans d3
 go_upto_region 14 with fail
 go_quiet (fail)
 go_wp2_with fail
 go_ret
 exact ⟨rfl, K1.out.trans (drewN_keeps _ _) (fun _ _ h => h)⟩
set_option maxRecDepth 100000 in
set_option maxHeartbeats 16000000 in
theorem named_ret_mz {w : World} {q : CkQ} {nd : List Nd} {fs : List Fnc} {w0 : World} {R : Nat → Prop} {s : CkS} (h : Ck w q nd fs w0 R s) (j : Nat) (ln n : Int) (x : List UInt8) (a : Option Addr) (m c : Nat) (f : Nat) (F : Fnc) (hfn : s.fn = (f : Int)) (hF : fs[f]? = some F) (hm : 0 < m) (hr : F.ret = 0) (hk6 : fs.length ≤ 1000) :
  Calls Tryz.prog 101 #[.pointer (some ⟨q.P, 0, none⟩), .int .i64 j, .agg #[.int .i64 17, .int .i64 ln, .int .i64 n, .string (ofL x), .slice a m c]] w fun e w' => e = .returned (.int .i64 43) ∧ Keeps (fun _ => False) w w' := by
 have HH := Lib.hid h
 clear h
 obtain ⟨X, hX⟩ : ∃ X, X = ofL x := ⟨_, rfl⟩
 have HXX := Lib.hid hX
 rw [← hX]
 clear hX
 obtain ⟨hfl, hfe⟩ := List.getElem?_eq_some_iff.1 hF
 obtain ⟨b, off, hA, hc⟩ := HH.out.treeR.fnAt (by omega)
 obtain ⟨fa, fc, d0, d1, d2, d3, d4, d5⟩ := hc f hfl
 clear d0 d1 d2 d4 d5
 rw [hfe] at d3
 obtain ⟨v0, hx⟩ := HH.out
 have c1 := hx.c1
 have c7 := hx.c7
 rw [hfn] at c7
 rw [hA] at c1
 have hi : (f : Int) < (q.k : Int) := by rw [hx.hk]; omega
 have hi0 : (0 : Int) ≤ (f : Int) := by omega
 generalize q.P = P at c1 c7 ⊢
 generalize q.k = KN at c1 hi
 generalize q.c' = cd at c1
 rw [hr] at d3
 have hmI : (0 : Int) < (m : Int) := by omega
 have hdI : decide ((0 : Int) < (m : Int)) = true := decide_eq_true hmI
 clear hx hA hc HH hfn hF hfl hfe hk6 hm
 go_enter Tryz.func101, Tryz.ntmps101
 go_upto_region 1 with fail

 obtain ⟨P5, hP5⟩ : ∃ X, X = w.heap.size := ⟨_, rfl⟩
 obtain ⟨w1, hw1⟩ : ∃ w1, w1 = w.alloc (.cells #[.int .i64 17, .int .i64 ln, .int .i64 n, .string X, .slice a m c] 41) := ⟨_, rfl⟩
 have ka := Keeps.one w (.cells #[.int .i64 17, .int .i64 ln, .int .i64 n, .string X, .slice a m c] 41)
 have HX1 : Hid (Loc w1 (fun _ => False) P5 [.int .i64 17, .int .i64 ln, .int .i64 n, .string X, .slice a m c]) := Lib.hid (by rw [hw1, hP5]; exact Loc.new (fun h => h) [.int .i64 17, .int .i64 ln, .int .i64 n, .string X, .slice a m c] 41)
 have HP5 := Lib.hid hP5
 rw [← hP5]
 rw [← hw1] at ka ⊢
 have K1 := Lib.hid ka
 have b0 := HX1.out.cells 0 _ rfl
 have b3 := HX1.out.cells 3 _ rfl
 have b4 := HX1.out.cells 4 _ rfl
 clear ka hw1 hP5

 replace c1 := (K1.out.cell (cell_ltk c1) (fun h => h)).trans c1
 replace c7 := (K1.out.cell (cell_ltk c7) (fun h => h)).trans c7
 replace d3 := (K1.out.cell (cell_ltk d3) (fun h => h)).trans d3
 go_upto_region 14 with fail
 go_quiet (fail)
 go_wp2_with fail
 go_ret
 exact ⟨rfl, K1.out.trans (drewN_keeps _ _) (fun _ _ h => h)⟩
set_option maxRecDepth 100000 in
set_option maxHeartbeats 16000000 in
theorem named_ret_mr {w : World} {q : CkQ} {nd : List Nd} {fs : List Fnc} {w0 : World} {R : Nat → Prop} {s : CkS} (h : Ck w q nd fs w0 R s) (j : Nat) (ln n : Int) (x : List UInt8) (a : Option Addr) (m c : Nat) (f : Nat) (F : Fnc) (hfn : s.fn = (f : Int)) (hF : fs[f]? = some F) (hm : 0 < m) (hr : F.ret ≠ 0) (hk6 : fs.length ≤ 1000) :
  Calls Tryz.prog 101 #[.pointer (some ⟨q.P, 0, none⟩), .int .i64 j, .agg #[.int .i64 17, .int .i64 ln, .int .i64 n, .string (ofL x), .slice a m c]] w fun e w' => e = .returned (.int .i64 0) ∧ Keeps (fun _ => False) w w' := by
 have HH := Lib.hid h
 clear h
 obtain ⟨X, hX⟩ : ∃ X, X = ofL x := ⟨_, rfl⟩
 have HXX := Lib.hid hX
 rw [← hX]
 clear hX
 obtain ⟨hfl, hfe⟩ := List.getElem?_eq_some_iff.1 hF
 obtain ⟨b, off, hA, hc⟩ := HH.out.treeR.fnAt (by omega)
 obtain ⟨fa, fc, d0, d1, d2, d3, d4, d5⟩ := hc f hfl
 clear d0 d1 d2 d4 d5
 rw [hfe] at d3
 obtain ⟨v0, hx⟩ := HH.out
 have c1 := hx.c1
 have c7 := hx.c7
 rw [hfn] at c7
 rw [hA] at c1
 have hi : (f : Int) < (q.k : Int) := by rw [hx.hk]; omega
 have hi0 : (0 : Int) ≤ (f : Int) := by omega
 generalize q.P = P at c1 c7 ⊢
 generalize q.k = KN at c1 hi
 generalize q.c' = cd at c1
 obtain ⟨rt, hrt⟩ : ∃ r, r = F.ret := ⟨_, rfl⟩
 have hmI : (0 : Int) < (m : Int) := by omega
 have hdI : decide ((0 : Int) < (m : Int)) = true := decide_eq_true hmI
 rw [← hrt] at d3 hr
 have hrb : (rt == 0) = false := by simpa using hr
 have hT : (!(decide (0 < m) == (rt != 0))) = false := by rw [decide_eq_true hm]; simp [bne, hrb]
 clear hrt
 clear hx hA hc HH hfn hF hfl hfe hk6 hm
 go_enter Tryz.func101, Tryz.ntmps101
 go_upto_region 1 with fail

 obtain ⟨P5, hP5⟩ : ∃ X, X = w.heap.size := ⟨_, rfl⟩
 obtain ⟨w1, hw1⟩ : ∃ w1, w1 = w.alloc (.cells #[.int .i64 17, .int .i64 ln, .int .i64 n, .string X, .slice a m c] 41) := ⟨_, rfl⟩
 have ka := Keeps.one w (.cells #[.int .i64 17, .int .i64 ln, .int .i64 n, .string X, .slice a m c] 41)
 have HX1 : Hid (Loc w1 (fun _ => False) P5 [.int .i64 17, .int .i64 ln, .int .i64 n, .string X, .slice a m c]) := Lib.hid (by rw [hw1, hP5]; exact Loc.new (fun h => h) [.int .i64 17, .int .i64 ln, .int .i64 n, .string X, .slice a m c] 41)
 have HP5 := Lib.hid hP5
 rw [← hP5]
 rw [← hw1] at ka ⊢
 have K1 := Lib.hid ka
 have b0 := HX1.out.cells 0 _ rfl
 have b3 := HX1.out.cells 3 _ rfl
 have b4 := HX1.out.cells 4 _ rfl
 clear ka hw1 hP5

 replace c1 := (K1.out.cell (cell_ltk c1) (fun h => h)).trans c1
 replace c7 := (K1.out.cell (cell_ltk c7) (fun h => h)).trans c7
 replace d3 := (K1.out.cell (cell_ltk d3) (fun h => h)).trans d3
 go_upto_region 14 with fail
 go_quiet (fail)
 go_wp2_with fail
 go_ret
 exact ⟨rfl, K1.out.trans (drewN_keeps _ _) (fun _ _ h => h)⟩
set_option maxRecDepth 100000 in
set_option maxHeartbeats 16000000 in
theorem named_rest (P : Nat) (w : World) (k : Int) (j : Nat) (ln n : Int) (X : ByteArray) (a : Option Addr) (m c : Nat) (h4 : k ≠ 4) (h5 : k ≠ 5) (h11 : k ≠ 11) (h12 : k ≠ 12) (h17 : k ≠ 17) (h21 : k ≠ 21) :
  Calls Tryz.prog 101 #[.pointer (some ⟨P, 0, none⟩), .int .i64 j, .agg #[.int .i64 k, .int .i64 ln, .int .i64 n, .string X, .slice a m c]] w fun e w' => e = .returned (.int .i64 0) ∧ Keeps (fun _ => False) w w' := by
 go_enter Tryz.func101, Tryz.ntmps101
 go_upto_region 1 with fail

 obtain ⟨P5, hP5⟩ : ∃ X, X = w.heap.size := ⟨_, rfl⟩
 obtain ⟨w1, hw1⟩ : ∃ w1, w1 = w.alloc (.cells #[.int .i64 k, .int .i64 ln, .int .i64 n, .string X, .slice a m c] 41) := ⟨_, rfl⟩
 have ka := Keeps.one w (.cells #[.int .i64 k, .int .i64 ln, .int .i64 n, .string X, .slice a m c] 41)
 have HX1 : Hid (Loc w1 (fun _ => False) P5 [.int .i64 k, .int .i64 ln, .int .i64 n, .string X, .slice a m c]) := Lib.hid (by rw [hw1, hP5]; exact Loc.new (fun h => h) [.int .i64 k, .int .i64 ln, .int .i64 n, .string X, .slice a m c] 41)
 have HP5 := Lib.hid hP5
 rw [← hP5]
 rw [← hw1] at ka ⊢
 have K1 := Lib.hid ka
 have b0 := HX1.out.cells 0 _ rfl
 have b3 := HX1.out.cells 3 _ rfl
 have b4 := HX1.out.cells 4 _ rfl
 clear ka hw1 hP5

 go_wp2_with fail
 go_ret
 exact ⟨rfl, K1.out⟩
end Go.Proofs.YtbhpnioggpgbhaaGreatDoor

namespace Go.Proofs.YtbhpnioggpgbhaaGreatDoor
open Go Go.RowKit Go.Shelf
set_option linter.unusedVariables false
set_option linter.unusedSimpArgs false
set_option maxRecDepth 100000 in
set_option maxHeartbeats 16000000 in
theorem let_twice {w : World} {q : CkQ} {nd : List Nd} {fs : List Fnc} {w0 : World} {R : Nat → Prop} {s : CkS} (h : Ck w q nd fs w0 R s) (j : Nat) (hj : j < q.m) (ln n : Int) (x : List UInt8) (a : Option Addr) (m c : Nat) (hV : s.V.length ≤ 1000) (v : Vb) (hv : lookV s.V x = some v) :
  Calls Tryz.prog 104 #[.pointer (some ⟨q.P, 0, none⟩), .int .i64 j, .agg #[.int .i64 10, .int .i64 ln, .int .i64 n, .string (ofL x), .slice a m c]] w fun e w' => e = .returned (.int .i64 41) ∧ Keeps (fun _ => False) w w' := by
 have HH := Lib.hid h
 clear h
 obtain ⟨X, hX⟩ : ∃ X, X = ofL x := ⟨_, rfl⟩
 have HXX := Lib.hid hX
 rw [← hX]
 clear hX
 go_enter Tryz.func104, Tryz.ntmps104
 go_upto_region 1 with fail

 obtain ⟨P5, hP5⟩ : ∃ X, X = w.heap.size := ⟨_, rfl⟩
 obtain ⟨w1, hw1⟩ : ∃ w1, w1 = w.alloc (.cells #[.int .i64 10, .int .i64 ln, .int .i64 n, .string X, .slice a m c] 41) := ⟨_, rfl⟩
 have ka := Keeps.one w (.cells #[.int .i64 10, .int .i64 ln, .int .i64 n, .string X, .slice a m c] 41)
 have HX1 : Hid (Loc w1 (fun _ => False) P5 [.int .i64 10, .int .i64 ln, .int .i64 n, .string X, .slice a m c]) := Lib.hid (by rw [hw1, hP5]; exact Loc.new (fun h => h) [.int .i64 10, .int .i64 ln, .int .i64 n, .string X, .slice a m c] 41)
 have HP5 := Lib.hid hP5
 rw [← hP5]
 rw [← hw1] at ka ⊢
 have K1 := Lib.hid ka
 have b0 := HX1.out.cells 0 _ rfl
 have b3 := HX1.out.cells 3 _ rfl
 have b4 := HX1.out.cells 4 _ rfl
 clear ka hw1 hP5

 obtain ⟨VX, hVX⟩ : ∃ X, X = ofL v.x := ⟨_, rfl⟩
 obtain ⟨vt, hvt⟩ : ∃ t, t = v.t := ⟨_, rfl⟩
 obtain ⟨vs, hvs⟩ : ∃ t, t = v.s := ⟨_, rfl⟩
 have FC : Hid (Calls Tryz.prog 46 #[.pointer (some ⟨q.P, 0, none⟩), .string X] w1 fun e w' => e = .returned (.tuple #[.agg #[.string VX, .int .i64 vt, .int .i64 vs], .bool true]) ∧ Keeps (fun _ => False) w1 w') := Lib.hid (by
  have hc := pfind_any (HH.out.keep K1.out) x hV
  rw [← HXX.out] at hc
  have e : findV s.V x = .tuple #[.agg #[.string VX, .int .i64 vt, .int .i64 vs], .bool true] := by unfold findV; rw [hv, hVX, hvt, hvs]
  rw [e] at hc
  exact hc)

 generalize q.P = P at FC ⊢
 clear hv hV hVX hvt hvs HH hj
 go_wp2_with fail
 refine FC.out.mono ?_
 rintro e w2 ⟨rfl, k2⟩
 have K2 := Lib.hid (K1.out.trans k2 (fun _ _ h => h))
 clear FC K1 k2 b0 b3 b4 HX1
 go_wp2_with fail
 go_ret
 exact ⟨rfl, K2.out.trans (Keeps.one _ _) (fun _ _ h => h)⟩
set_option maxRecDepth 100000 in
set_option maxHeartbeats 16000000 in
theorem let_big {w : World} {q : CkQ} {nd : List Nd} {fs : List Fnc} {w0 : World} {R : Nat → Prop} {s : CkS} (h : Ck w q nd fs w0 R s) (j : Nat) (hj : j < q.m) (ln n : Int) (x : List UInt8) (a : Option Addr) (m c : Nat) (hV : s.V.length ≤ 1000) (hv : lookV s.V x = none) (f N : Nat) (hfn : s.fn = (f : Int)) (hf : f < q.k) (hz : s.sz[f]? = some (N : Int)) (hN : 24 ≤ N) :
  Calls Tryz.prog 104 #[.pointer (some ⟨q.P, 0, none⟩), .int .i64 j, .agg #[.int .i64 10, .int .i64 ln, .int .i64 n, .string (ofL x), .slice a m c]] w fun e w' => e = .returned (.int .i64 4) ∧ Keeps (fun _ => False) w w' := by
 have HH := Lib.hid h
 clear h
 obtain ⟨X, hX⟩ : ∃ X, X = ofL x := ⟨_, rfl⟩
 have HXX := Lib.hid hX
 rw [← hX]
 clear hX
 have hNI : (24 : Int) ≤ (N : Int) := by omega
 have hNd : decide ((24 : Int) ≤ (N : Int)) = true := decide_eq_true hNI
 go_enter Tryz.func104, Tryz.ntmps104
 go_upto_region 1 with fail

 obtain ⟨P5, hP5⟩ : ∃ X, X = w.heap.size := ⟨_, rfl⟩
 obtain ⟨w1, hw1⟩ : ∃ w1, w1 = w.alloc (.cells #[.int .i64 10, .int .i64 ln, .int .i64 n, .string X, .slice a m c] 41) := ⟨_, rfl⟩
 have ka := Keeps.one w (.cells #[.int .i64 10, .int .i64 ln, .int .i64 n, .string X, .slice a m c] 41)
 have HX1 : Hid (Loc w1 (fun _ => False) P5 [.int .i64 10, .int .i64 ln, .int .i64 n, .string X, .slice a m c]) := Lib.hid (by rw [hw1, hP5]; exact Loc.new (fun h => h) [.int .i64 10, .int .i64 ln, .int .i64 n, .string X, .slice a m c] 41)
 have HP5 := Lib.hid hP5
 rw [← hP5]
 rw [← hw1] at ka ⊢
 have K1 := Lib.hid ka
 have b0 := HX1.out.cells 0 _ rfl
 have b3 := HX1.out.cells 3 _ rfl
 have b4 := HX1.out.cells 4 _ rfl
 clear ka hw1 hP5

 have FC : Hid (Calls Tryz.prog 46 #[.pointer (some ⟨q.P, 0, none⟩), .string X] w1 fun e w' => e = .returned (.tuple #[.agg #[.string { data := #[] }, .int .i64 0, .int .i64 0], .bool false]) ∧ Keeps (fun _ => False) w1 w') := Lib.hid (by
  have hc := pfind_any (HH.out.keep K1.out) x hV
  rw [← HXX.out] at hc
  have e : findV s.V x = .tuple #[.agg #[.string { data := #[] }, .int .i64 0, .int .i64 0], .bool false] := by unfold findV; rw [hv]; rfl
  rw [e] at hc
  exact hc)

 generalize hPP : q.P = P at FC ⊢
 have HPP := Lib.hid hPP
 clear hv hV hPP
 go_wp2_with fail
 refine FC.out.mono ?_
 rintro e w2 ⟨rfl, k2⟩
 have K2 := Lib.hid (K1.out.trans k2 (fun _ _ h => h))
 have HX2 := Lib.hid (HX1.out.keeps k2)
 clear FC K1 k2 b0 b3 b4 HX1
 go_upto_region 2 with fail
 obtain ⟨w3, hw3⟩ : ∃ w3, w3 = w2.alloc (.cells #[.string { data := #[] }, .int .i64 0, .int .i64 0] 46) := ⟨_, rfl⟩
 have kb := Keeps.one w2 (.cells #[.string { data := #[] }, .int .i64 0, .int .i64 0] 46)
 rw [← hw3] at kb ⊢
 have K3 := Lib.hid (K2.out.trans kb (fun _ _ h => h))
 have HX3 := Lib.hid (HX2.out.keeps kb)
 have HC3 := Lib.hid (HH.out.keep K3.out)
 clear kb hw3 K2 HX2
 obtain ⟨v3, hx⟩ := HC3.out
 have c5 := hx.c5
 have c7 := hx.c7
 have zc := hx.tZ.cell f _ hz
 rw [HPP.out, hfn] at c7
 rw [HPP.out] at c5
 have hiz : (f : Int) < (q.k : Int) := by omega
 have hi0 : (0 : Int) ≤ (f : Int) := by omega
 clear hx
 have HZQ := Lib.hid (And.intro hz (And.intro hf hfn))
 obtain ⟨ZZ, hZZ⟩ : ∃ Z, Z = q.Z := ⟨_, rfl⟩
 obtain ⟨KK, hKK⟩ : ∃ Z, Z = q.k := ⟨_, rfl⟩
 rw [← hZZ] at zc
 rw [← hZZ, ← hKK] at c5
 rw [← hKK] at hiz
 clear hz hf hfn hZZ hKK
 go_upto_region 4 with fail
 go_quiet (fail)
 obtain ⟨wq, hwq⟩ : ∃ wq : World, wq = w3.drewN nq := ⟨_, rfl⟩
 have kq : Keeps (fun _ => False) w3 wq := by rw [hwq]; exact drewN_keeps w3 nq
 rw [← hwq]
 have K4 := Lib.hid (K3.out.trans kq (fun _ _ h => h))
 have HX4 := Lib.hid (HX3.out.keeps kq)
 have HC4 := Lib.hid (HC3.out.keep kq)
 clear hwq kq c5 c7 zc K3 HX3 HC3 hiz
 go_wp2_with fail
 go_ret
 exact ⟨rfl, K4.out⟩
set_option maxRecDepth 100000 in
set_option maxHeartbeats 16000000 in
theorem let_ok {w : World} {q : CkQ} {nd : List Nd} {fs : List Fnc} {w0 : World} {R : Nat → Prop} {s : CkS} (h : Ck w q nd fs w0 R s) (j : Nat) (hj : j < q.m) (ln n : Int) (x : List UInt8) (a : Option Addr) (m c : Nat) (hV : s.V.length ≤ 1000) (hv : lookV s.V x = none) (f N : Nat) (hfn : s.fn = (f : Int)) (hf : f < q.k) (hz : s.sz[f]? = some (N : Int)) (hN : N < 24) (l : List Int) (hl : l.length = m) (hr : RdI w0 a l) (i : Nat) (hl0 : l[0]? = some (i : Int)) (him : i < q.m) (t : Int) (hti : s.ty[i]? = some t) :
  Calls Tryz.prog 104 #[.pointer (some ⟨q.P, 0, none⟩), .int .i64 j, .agg #[.int .i64 10, .int .i64 ln, .int .i64 n, .string (ofL x), .slice a m c]] w fun e w' => e = .returned (.int .i64 0) ∧ ∃ R', Ck w' q nd fs w0 R' { s with sl := s.sl.set j (N : Int), sz := s.sz.set f ((N : Int) + 1), V := s.V ++ [⟨x, t, (N : Int)⟩] } ∧ Fr R w R' w' := by
 have HH := Lib.hid h
 clear h
 obtain ⟨X, hX⟩ : ∃ X, X = ofL x := ⟨_, rfl⟩
 have HXX := Lib.hid hX
 rw [← hX]
 clear hX
 have hNI : ¬ (24 : Int) ≤ (N : Int) := by omega
 have hNd : decide ((24 : Int) ≤ (N : Int)) = false := decide_eq_false hNI
 have HVL := Lib.hid hV
 have HJ := Lib.hid hj
 have HL := Lib.hid (And.intro hl (And.intro hr (And.intro hl0 (And.intro him hti))))
 have HN := Lib.hid hN
 have hnR : ¬ R w.heap.size := HH.out.new
 have HNR := Lib.hid hnR
 clear hl hr hl0 him hti hnR hj
 go_enter Tryz.func104, Tryz.ntmps104
 go_upto_region 1 with fail

 obtain ⟨P5, hP5⟩ : ∃ X, X = w.heap.size := ⟨_, rfl⟩
 obtain ⟨w1, hw1⟩ : ∃ w1, w1 = w.alloc (.cells #[.int .i64 10, .int .i64 ln, .int .i64 n, .string X, .slice a m c] 41) := ⟨_, rfl⟩
 have ka := Keeps.one w (.cells #[.int .i64 10, .int .i64 ln, .int .i64 n, .string X, .slice a m c] 41)
 have HX1 : Hid (Loc w1 (fun _ => False) P5 [.int .i64 10, .int .i64 ln, .int .i64 n, .string X, .slice a m c]) := Lib.hid (by rw [hw1, hP5]; exact Loc.new (fun h => h) [.int .i64 10, .int .i64 ln, .int .i64 n, .string X, .slice a m c] 41)
 have HP5 := Lib.hid hP5
 rw [← hP5]
 rw [← hw1] at ka ⊢
 have K1 := Lib.hid ka
 have b0 := HX1.out.cells 0 _ rfl
 have b3 := HX1.out.cells 3 _ rfl
 have b4 := HX1.out.cells 4 _ rfl
 clear ka hw1 hP5

 have FC : Hid (Calls Tryz.prog 46 #[.pointer (some ⟨q.P, 0, none⟩), .string X] w1 fun e w' => e = .returned (.tuple #[.agg #[.string { data := #[] }, .int .i64 0, .int .i64 0], .bool false]) ∧ Keeps (fun _ => False) w1 w') := Lib.hid (by
  have hc := pfind_any (HH.out.keep K1.out) x hV
  rw [← HXX.out] at hc
  have e : findV s.V x = .tuple #[.agg #[.string { data := #[] }, .int .i64 0, .int .i64 0], .bool false] := by unfold findV; rw [hv]; rfl
  rw [e] at hc
  exact hc)

 generalize hPP : q.P = P at FC ⊢
 have HPP := Lib.hid hPP
 clear hv hV hPP
 go_wp2_with fail
 refine FC.out.mono ?_
 rintro e w2 ⟨rfl, k2⟩
 have K2 := Lib.hid (K1.out.trans k2 (fun _ _ h => h))
 have HX2 := Lib.hid (HX1.out.keeps k2)
 clear FC K1 k2 b0 b3 b4 HX1
 go_upto_region 2 with fail
 obtain ⟨w3, hw3⟩ : ∃ w3, w3 = w2.alloc (.cells #[.string { data := #[] }, .int .i64 0, .int .i64 0] 46) := ⟨_, rfl⟩
 have kb := Keeps.one w2 (.cells #[.string { data := #[] }, .int .i64 0, .int .i64 0] 46)
 rw [← hw3] at kb ⊢
 have K3 := Lib.hid (K2.out.trans kb (fun _ _ h => h))
 have HX3 := Lib.hid (HX2.out.keeps kb)
 have HC3 := Lib.hid (HH.out.keep K3.out)
 clear kb hw3 K2 HX2
 obtain ⟨v3, hx⟩ := HC3.out
 have c5 := hx.c5
 have c7 := hx.c7
 have zc := hx.tZ.cell f _ hz
 rw [HPP.out, hfn] at c7
 rw [HPP.out] at c5
 have hiz : (f : Int) < (q.k : Int) := by omega
 have hi0 : (0 : Int) ≤ (f : Int) := by omega
 clear hx
 have HZQ := Lib.hid (And.intro hz (And.intro hf hfn))
 obtain ⟨ZZ, hZZ⟩ : ∃ Z, Z = q.Z := ⟨_, rfl⟩
 obtain ⟨KK, hKK⟩ : ∃ Z, Z = q.k := ⟨_, rfl⟩
 rw [← hZZ] at zc
 rw [← hZZ, ← hKK] at c5
 rw [← hKK] at hiz
 clear hz hf hfn hZZ hKK
 go_upto_region 4 with fail
 go_quiet (fail)
 obtain ⟨wq, hwq⟩ : ∃ wq : World, wq = w3.drewN nq := ⟨_, rfl⟩
 have kq : Keeps (fun _ => False) w3 wq := by rw [hwq]; exact drewN_keeps w3 nq
 rw [← hwq]
 have K4 := Lib.hid (K3.out.trans kq (fun _ _ h => h))
 have HX4 := Lib.hid (HX3.out.keeps kq)
 have HC4 := Lib.hid (HC3.out.keep kq)
 clear hwq kq c5 c7 zc K3 HX3 HC3 hiz
 go_upto_region 6 with fail
 have HXR : Loc wq R P5 [.int .i64 10, .int .i64 ln, .int .i64 n, .string X, .slice a m c] := ⟨HX4.out.lt, by rw [HP5.out]; exact HNR.out, HX4.out.cells, HX4.out.fz⟩
 obtain ⟨hl, hr, hl0, him, hti⟩ := HL.out
 obtain ⟨lb, lo, rfl, hlc⟩ := hr.get (k := 0) (by have := (List.getElem?_eq_some_iff.1 hl0).1; exact this) hl0
 have hm0 : 0 < m := by have := (List.getElem?_eq_some_iff.1 hl0).1; omega
 have hmI : (0 : Int) < (m : Int) := by omega
 obtain ⟨TT, hTT⟩ : ∃ Z, Z = q.T := ⟨_, rfl⟩
 obtain ⟨SS, hSS⟩ : ∃ Z, Z = q.S := ⟨_, rfl⟩
 obtain ⟨M, hM⟩ : ∃ Z, Z = q.m := ⟨_, rfl⟩
 have hiM : (i : Int) < (M : Int) := by omega
 have hjM : (j : Int) < (M : Int) := by have := HJ.out; omega
 have hi0' : (0 : Int) ≤ (i : Int) := by omega
 have hj0' : (0 : Int) ≤ (j : Int) := by omega
 have SKR : Hid (∀ w' R' s', Ck w' q nd fs w0 R' s' → s'.ty = s.ty → Fr R wq R' w' → w'.cell? ⟨P, 2, none⟩ = some (.slice (some ⟨TT, 0, none⟩) M M) ∧ w'.cell? ⟨P, 3, none⟩ = some (.slice (some ⟨SS, 0, none⟩) M M) ∧ w'.cell? ⟨P5, 3, none⟩ = some (.string X) ∧ w'.cell? ⟨P5, 4, none⟩ = some (.slice (some ⟨lb, lo, none⟩) m c) ∧ w'.cell? ⟨lb, lo, none⟩ = some (.int .i64 i) ∧ w'.cell? ⟨TT, i, none⟩ = some (.int .i64 t)) := Lib.hid (fun w' R' s' hp ht hf => by
  obtain ⟨v', hx⟩ := hp
  have e2 := hx.c2
  have e3 := hx.c3
  rw [HPP.out] at e2 e3
  rw [hTT, hSS, hM]
  exact ⟨e2, e3, (HXR.keep hf).cells 3 _ rfl, (HXR.keep hf).cells 4 _ rfl, (hx.up.cell (cell_ltk hlc) (by have := cell_ltk hlc; omega)).trans hlc, hx.tT.cell i t (by rw [ht]; exact hti)⟩)
 have SK0 : Hid (∀ w', Keeps (fun _ => False) wq w' → w'.cell? ⟨P, 2, none⟩ = some (.slice (some ⟨TT, 0, none⟩) M M) ∧ w'.cell? ⟨P, 3, none⟩ = some (.slice (some ⟨SS, 0, none⟩) M M) ∧ w'.cell? ⟨P5, 3, none⟩ = some (.string X) ∧ w'.cell? ⟨P5, 4, none⟩ = some (.slice (some ⟨lb, lo, none⟩) m c) ∧ w'.cell? ⟨lb, lo, none⟩ = some (.int .i64 i) ∧ w'.cell? ⟨TT, i, none⟩ = some (.int .i64 t)) := Lib.hid (fun w' k => SKR.out w' R s (HC4.out.keep k) rfl ((Fr.refl R wq).keeps k))
 have AC : Hid (∀ w', Keeps (fun _ => False) wq w' → Calls Tryz.prog 48 #[.pointer (some ⟨P, 0, none⟩), .string X, .int .i64 t] w' fun e w'' => e = .returned (.int .i64 (N : Int)) ∧ ∃ R', Ck w'' q nd fs w0 R' { s with sz := s.sz.set f ((N : Int) + 1), V := s.V ++ [⟨x, t, (N : Int)⟩] } ∧ Fr R wq R' w'' ∧ (∃ u, w''.cell? ⟨SS, j, none⟩ = some (.int .i64 u)) ∧ w''.frozen? ⟨SS, j, none⟩ = false ∧ Ck (w''.setCell ⟨SS, j, none⟩ (.int .i64 (N : Int))) q nd fs w0 R' { s with sl := s.sl.set j (N : Int), sz := s.sz.set f ((N : Int) + 1), V := s.V ++ [⟨x, t, (N : Int)⟩] } ∧ Fr R wq R' (w''.setCell ⟨SS, j, none⟩ (.int .i64 (N : Int)))) := Lib.hid (fun w' k => by
  have hc := padd_any (HC4.out.keep k) f N HZQ.out.2.2 HZQ.out.2.1 HZQ.out.1 (by have := HN.out; omega) HVL.out x t
  rw [HPP.out, ← HXX.out] at hc
  refine hc.mono ?_
  rintro e w'' ⟨rfl, R', hp, hf⟩
  have hf' := ((Fr.refl R wq).keeps k).trans hf
  have hs := hp.setS j (N : Int) HJ.out
  rw [← hSS] at hs
  refine ⟨rfl, R', hp, hf', ?_, ?_, hs.1, hf'.trans hs.2⟩
  ·obtain ⟨v', hx⟩ := hp
   have hjs : j < s.sl.length := by have := hx.lS; have h2 := HJ.out; have : s.sl.length = q.m := this; omega
   rw [hSS]
   exact ⟨_, hx.tS.cell j _ (List.getElem?_eq_getElem hjs)⟩
  ·obtain ⟨v', hx⟩ := hp
   rw [hSS]
   exact hx.tS.fz j)
 have K5 := Lib.hid ((Fr.refl R w).keeps K4.out)
 clear hl hr hl0 him hti hlc HXR HX4 hTT hSS hM HL HJ HN HVL
 go_wp2_with fail
 go_region_held3 (fun w' => w'.cell? ⟨P, 2, none⟩ = some (.slice (some ⟨TT, 0, none⟩) M M) ∧ w'.cell? ⟨P, 3, none⟩ = some (.slice (some ⟨SS, 0, none⟩) M M) ∧ w'.cell? ⟨P5, 3, none⟩ = some (.string X) ∧ w'.cell? ⟨P5, 4, none⟩ = some (.slice (some ⟨lb, lo, none⟩) m c) ∧ w'.cell? ⟨lb, lo, none⟩ = some (.int .i64 i) ∧ w'.cell? ⟨TT, i, none⟩ = some (.int .i64 t)) (first | exact SK0.out _ (Keeps.refl _ _) | exact SK0.out _ ((Keeps.refl _ _).drew) | exact SKR.out _ _ _ hp rfl hf | exact SKR.out _ _ _ hp2 rfl hf2) (first | (go_at_call 48; refine (AC.out _ (by first | exact (Keeps.refl _ _).drew | exact Keeps.refl _ _)).mono ?_; rintro e w6 ⟨rfl, R6, hp, hf, ⟨u6, zc6⟩, zf6, hp2, hf2⟩))
 all_goals go_wp2_with fail
 all_goals go_ret
 all_goals exact ⟨rfl, R6, hp2, K5.out.trans hf2⟩
end Go.Proofs.YtbhpnioggpgbhaaGreatDoor

namespace Go.Proofs.YtbhpnioggpgbhaaGreatDoor
open Go Go.RowKit Go.Shelf
set_option linter.unusedVariables false
set_option linter.unusedSimpArgs false
set_option maxRecDepth 100000 in
set_option maxHeartbeats 16000000 in
theorem pbelow_any {w : World} {q : CkQ} {nd : List Nd} {fs : List Fnc} {w0 : World} {R : Nat → Prop} {s : CkS} (h : Ck w q nd fs w0 R s) (PC PN : Nat) (a : Option Addr) (m c : Nat) (hpc : w.cell? ⟨PC, 0, none⟩ = some (.pointer (some ⟨q.P, 0, none⟩))) (hpn : w.cell? ⟨PN, 4, none⟩ = some (.slice a m c)) (l : List Int) (hl : l.length = m) (hr : RdI w0 a l) (k i : Nat) (hlk : l[k]? = some (i : Int)) (him : i < q.m) (t : Int) (hti : s.ty[i]? = some t) :
  Calls Tryz.prog 128 #[.int .i64 k, .pointer (some ⟨PC, 0, none⟩), .pointer (some ⟨PN, 0, none⟩)] w fun e w' => e = .returned (.int .i64 t) ∧ Keeps (fun _ => False) w w' := by
 obtain ⟨v, hx⟩ := h
 have hkl := (List.getElem?_eq_some_iff.1 hlk).1
 obtain ⟨lb, lo, rfl, hlc⟩ := hr.get hkl hlk
 have lc : w.cell? ⟨lb, lo + k, none⟩ = some (.int .i64 i) := (hx.up.cell (cell_ltk hlc) (by have := cell_ltk hlc; omega)).trans hlc
 have tc := hx.tT.cell i t hti
 have c2 := hx.c2
 have hkm : k < m := by omega
 have hkI : (k : Int) < (m : Int) := by omega
 have hk0 : (0 : Int) ≤ (k : Int) := by omega
 have hiI : (i : Int) < (q.m : Int) := by omega
 have hi0 : (0 : Int) ≤ (i : Int) := by omega
 generalize q.P = P at hpc c2
 generalize q.T = TT at c2 tc
 generalize q.m = M at c2 hiI him
 clear hx hlc hr hti hlk hl hkl
 go_enter Tryz.func128, Tryz.ntmps128
 go_upto_region 1 with fail
 go_quiet (fail)
 go_wp2_with fail
 go_ret
 exact ⟨rfl, drewN_keeps _ _⟩
end Go.Proofs.YtbhpnioggpgbhaaGreatDoor
