/-
 Layer 4: the program's tells. Written by an AI agent.
-/
import Derived.Test.YtbhpnioggpgbhaaGreatDoorMcay
import Derived.Test.YtbhpnioggpgbhaaGreatDoorMcaz
namespace Go.Proofs.YtbhpnioggpgbhaaGreatDoor
open Go Go.RowKit Go.Shelf
set_option linter.unusedVariables false
set_option linter.unusedSimpArgs false
theorem findV_form (V : List Vb) (x : List UInt8) : ∃ SO ot os bk, findV V x = .tuple #[.agg #[.string SO, .int .i64 ot, .int .i64 os], .bool bk] ∧ ∀ v, lookV V x = some v → ot = v.t := by
 unfold findV
 cases h : lookV V x with
 | none => exact ⟨_, _, _, _, rfl, fun v h => by cases h⟩
 | some v => exact ⟨_, _, _, _, rfl, fun v' h => by cases h; rfl⟩
set_option maxRecDepth 100000 in
set_option maxHeartbeats 16000000 in
theorem tells_k1 {w : World} {q : CkQ} {nd : List Nd} {fs : List Fnc} {w0 : World} {R : Nat → Prop} {s : CkS} (h : Ck w q nd fs w0 R s) (ln n : Int) (x : List UInt8) (a : Option Addr) (m c : Nat) (hV : s.V.length ≤ 1000) (SO : ByteArray) (ot os : Int) (bk : Bool) (hfv : findV s.V x = .tuple #[.agg #[.string SO, .int .i64 ot, .int .i64 os], .bool bk])   :
  Calls Tryz.prog 103 #[.pointer (some ⟨q.P, 0, none⟩), .agg #[.int .i64 1, .int .i64 ln, .int .i64 n, .string (ofL x), .slice a m c]] w fun e w' => e = .returned (.tuple #[.int .i64 1, .int .i64 0]) ∧ Keeps (fun _ => False) w w' := by
 have HH := Lib.hid h
 clear h
 obtain ⟨X, hX⟩ : ∃ X, X = ofL x := ⟨_, rfl⟩
 have HXX := Lib.hid hX
 rw [← hX]
 clear hX
 go_enter Tryz.func103, Tryz.ntmps103
 go_upto_region 1 with fail
 obtain ⟨wa, hwa⟩ : ∃ w1, w1 = w.alloc (.cells #[.pointer (some ⟨q.P, 0, none⟩)] 86) := ⟨_, rfl⟩
 have ka := Keeps.one w (.cells #[.pointer (some ⟨q.P, 0, none⟩)] 86)
 have LC := Loc.new (w := w) (R := fun _ => False) (fun h => h) [.pointer (some ⟨q.P, 0, none⟩)] 86
 have e1 : wa.heap.size = w.heap.size + 1 := by rw [hwa]; simp
 replace LC : Loc wa (fun _ => False) w.heap.size [.pointer (some ⟨q.P, 0, none⟩)] := by rw [hwa]; exact LC
 rw [← hwa] at ka ⊢
 obtain ⟨w1, hw1⟩ : ∃ w1, w1 = wa.alloc (.cells #[.int .i64 1, .int .i64 ln, .int .i64 n, .string X, .slice a m c] 41) := ⟨_, rfl⟩
 have kb := Keeps.one wa (.cells #[.int .i64 1, .int .i64 ln, .int .i64 n, .string X, .slice a m c] 41)
 have LN : Loc w1 (fun _ => False) (w.heap.size + 1) [.int .i64 1, .int .i64 ln, .int .i64 n, .string X, .slice a m c] := by rw [hw1, ← e1]; exact Loc.new (fun h => h) [.int .i64 1, .int .i64 ln, .int .i64 n, .string X, .slice a m c] 41
 rw [← hw1] at kb ⊢
 generalize w.heap.size + 1 = PN at LN e1 ⊢
 generalize w.heap.size = PC at LC ⊢
 have LC := LC.keeps kb
 have K1 := Lib.hid (ka.trans kb (fun _ _ h => h))
 have c0 := LC.cells 0 _ rfl
 have b0 := LN.cells 0 _ rfl
 have b3 := LN.cells 3 _ rfl
 have b4 := LN.cells 4 _ rfl
 have HL := Lib.hid (And.intro LC LN)
 have FC : Hid (Calls Tryz.prog 46 #[.pointer (some ⟨q.P, 0, none⟩), .string X] w1 fun e w' => e = .returned (.tuple #[.agg #[.string SO, .int .i64 ot, .int .i64 os], .bool bk]) ∧ Keeps (fun _ => False) w1 w') := Lib.hid (by
  have hc := pfind_any (HH.out.keep K1.out) x hV
  rw [← HXX.out, hfv] at hc
  exact hc)
 generalize q.P = P at c0 FC LC HL ⊢
 clear hfv hV ka kb hwa hw1 e1 LC LN  
 go_wp2_with fail
 refine FC.out.mono ?_
 rintro e w2 ⟨rfl, k2⟩
 go_upto_region 3 with fail
 obtain ⟨P7, hP7⟩ : ∃ X, X = w2.heap.size := ⟨_, rfl⟩
 obtain ⟨w3, hw3⟩ : ∃ w3, w3 = w2.alloc (.cells #[.string SO, .int .i64 ot, .int .i64 os] 46) := ⟨_, rfl⟩
 have kc := Keeps.one w2 (.cells #[.string SO, .int .i64 ot, .int .i64 os] 46)
 have L7 : Loc w3 (fun _ => False) P7 [.string SO, .int .i64 ot, .int .i64 os] := by rw [hw3, hP7]; exact Loc.new (fun h => h) [.string SO, .int .i64 ot, .int .i64 os] 46
 rw [← hP7]
 rw [← hw3] at kc ⊢
 have k3 := k2.trans kc (fun _ _ h => h)
 have K3 := Lib.hid k3
 have o0 := L7.cells 0 _ rfl
 have o1 := L7.cells 1 _ rfl
 have o2 := L7.cells 2 _ rfl
 replace c0 := (k3.cell (cell_ltk c0) (fun h => h)).trans c0
 replace b0 := (k3.cell (cell_ltk b0) (fun h => h)).trans b0
 replace b3 := (k3.cell (cell_ltk b3) (fun h => h)).trans b3
 replace b4 := (k3.cell (cell_ltk b4) (fun h => h)).trans b4
 clear FC k2 kc hw3 hP7 k3 L7
 go_wp2_with fail
 go_ret2
 exact ⟨by first | done | rfl, K1.out.trans K3.out (fun _ _ h => h)⟩
set_option maxRecDepth 100000 in
set_option maxHeartbeats 16000000 in
theorem tells_k19 {w : World} {q : CkQ} {nd : List Nd} {fs : List Fnc} {w0 : World} {R : Nat → Prop} {s : CkS} (h : Ck w q nd fs w0 R s) (ln n : Int) (x : List UInt8) (a : Option Addr) (m c : Nat) (hV : s.V.length ≤ 1000) (SO : ByteArray) (ot os : Int) (bk : Bool) (hfv : findV s.V x = .tuple #[.agg #[.string SO, .int .i64 ot, .int .i64 os], .bool bk])   :
  Calls Tryz.prog 103 #[.pointer (some ⟨q.P, 0, none⟩), .agg #[.int .i64 19, .int .i64 ln, .int .i64 n, .string (ofL x), .slice a m c]] w fun e w' => e = .returned (.tuple #[.int .i64 1, .int .i64 0]) ∧ Keeps (fun _ => False) w w' := by
 have HH := Lib.hid h
 clear h
 obtain ⟨X, hX⟩ : ∃ X, X = ofL x := ⟨_, rfl⟩
 have HXX := Lib.hid hX
 rw [← hX]
 clear hX
 go_enter Tryz.func103, Tryz.ntmps103
 go_upto_region 1 with fail
 obtain ⟨wa, hwa⟩ : ∃ w1, w1 = w.alloc (.cells #[.pointer (some ⟨q.P, 0, none⟩)] 86) := ⟨_, rfl⟩
 have ka := Keeps.one w (.cells #[.pointer (some ⟨q.P, 0, none⟩)] 86)
 have LC := Loc.new (w := w) (R := fun _ => False) (fun h => h) [.pointer (some ⟨q.P, 0, none⟩)] 86
 have e1 : wa.heap.size = w.heap.size + 1 := by rw [hwa]; simp
 replace LC : Loc wa (fun _ => False) w.heap.size [.pointer (some ⟨q.P, 0, none⟩)] := by rw [hwa]; exact LC
 rw [← hwa] at ka ⊢
 obtain ⟨w1, hw1⟩ : ∃ w1, w1 = wa.alloc (.cells #[.int .i64 19, .int .i64 ln, .int .i64 n, .string X, .slice a m c] 41) := ⟨_, rfl⟩
 have kb := Keeps.one wa (.cells #[.int .i64 19, .int .i64 ln, .int .i64 n, .string X, .slice a m c] 41)
 have LN : Loc w1 (fun _ => False) (w.heap.size + 1) [.int .i64 19, .int .i64 ln, .int .i64 n, .string X, .slice a m c] := by rw [hw1, ← e1]; exact Loc.new (fun h => h) [.int .i64 19, .int .i64 ln, .int .i64 n, .string X, .slice a m c] 41
 rw [← hw1] at kb ⊢
 generalize w.heap.size + 1 = PN at LN e1 ⊢
 generalize w.heap.size = PC at LC ⊢
 have LC := LC.keeps kb
 have K1 := Lib.hid (ka.trans kb (fun _ _ h => h))
 have c0 := LC.cells 0 _ rfl
 have b0 := LN.cells 0 _ rfl
 have b3 := LN.cells 3 _ rfl
 have b4 := LN.cells 4 _ rfl
 have HL := Lib.hid (And.intro LC LN)
 have FC : Hid (Calls Tryz.prog 46 #[.pointer (some ⟨q.P, 0, none⟩), .string X] w1 fun e w' => e = .returned (.tuple #[.agg #[.string SO, .int .i64 ot, .int .i64 os], .bool bk]) ∧ Keeps (fun _ => False) w1 w') := Lib.hid (by
  have hc := pfind_any (HH.out.keep K1.out) x hV
  rw [← HXX.out, hfv] at hc
  exact hc)
 generalize q.P = P at c0 FC LC HL ⊢
 clear hfv hV ka kb hwa hw1 e1 LC LN  
 go_wp2_with fail
 refine FC.out.mono ?_
 rintro e w2 ⟨rfl, k2⟩
 go_upto_region 3 with fail
 obtain ⟨P7, hP7⟩ : ∃ X, X = w2.heap.size := ⟨_, rfl⟩
 obtain ⟨w3, hw3⟩ : ∃ w3, w3 = w2.alloc (.cells #[.string SO, .int .i64 ot, .int .i64 os] 46) := ⟨_, rfl⟩
 have kc := Keeps.one w2 (.cells #[.string SO, .int .i64 ot, .int .i64 os] 46)
 have L7 : Loc w3 (fun _ => False) P7 [.string SO, .int .i64 ot, .int .i64 os] := by rw [hw3, hP7]; exact Loc.new (fun h => h) [.string SO, .int .i64 ot, .int .i64 os] 46
 rw [← hP7]
 rw [← hw3] at kc ⊢
 have k3 := k2.trans kc (fun _ _ h => h)
 have K3 := Lib.hid k3
 have o0 := L7.cells 0 _ rfl
 have o1 := L7.cells 1 _ rfl
 have o2 := L7.cells 2 _ rfl
 replace c0 := (k3.cell (cell_ltk c0) (fun h => h)).trans c0
 replace b0 := (k3.cell (cell_ltk b0) (fun h => h)).trans b0
 replace b3 := (k3.cell (cell_ltk b3) (fun h => h)).trans b3
 replace b4 := (k3.cell (cell_ltk b4) (fun h => h)).trans b4
 clear FC k2 kc hw3 hP7 k3 L7
 go_wp2_with fail
 go_ret2
 exact ⟨by first | done | rfl, K1.out.trans K3.out (fun _ _ h => h)⟩
set_option maxRecDepth 100000 in
set_option maxHeartbeats 16000000 in
theorem tells_k2 {w : World} {q : CkQ} {nd : List Nd} {fs : List Fnc} {w0 : World} {R : Nat → Prop} {s : CkS} (h : Ck w q nd fs w0 R s) (ln n : Int) (x : List UInt8) (a : Option Addr) (m c : Nat) (hV : s.V.length ≤ 1000) (SO : ByteArray) (ot os : Int) (bk : Bool) (hfv : findV s.V x = .tuple #[.agg #[.string SO, .int .i64 ot, .int .i64 os], .bool bk])   :
  Calls Tryz.prog 103 #[.pointer (some ⟨q.P, 0, none⟩), .agg #[.int .i64 2, .int .i64 ln, .int .i64 n, .string (ofL x), .slice a m c]] w fun e w' => e = .returned (.tuple #[.int .i64 2, .int .i64 0]) ∧ Keeps (fun _ => False) w w' := by
 have HH := Lib.hid h
 clear h
 obtain ⟨X, hX⟩ : ∃ X, X = ofL x := ⟨_, rfl⟩
 have HXX := Lib.hid hX
 rw [← hX]
 clear hX
 go_enter Tryz.func103, Tryz.ntmps103
 go_upto_region 1 with fail
 obtain ⟨wa, hwa⟩ : ∃ w1, w1 = w.alloc (.cells #[.pointer (some ⟨q.P, 0, none⟩)] 86) := ⟨_, rfl⟩
 have ka := Keeps.one w (.cells #[.pointer (some ⟨q.P, 0, none⟩)] 86)
 have LC := Loc.new (w := w) (R := fun _ => False) (fun h => h) [.pointer (some ⟨q.P, 0, none⟩)] 86
 have e1 : wa.heap.size = w.heap.size + 1 := by rw [hwa]; simp
 replace LC : Loc wa (fun _ => False) w.heap.size [.pointer (some ⟨q.P, 0, none⟩)] := by rw [hwa]; exact LC
 rw [← hwa] at ka ⊢
 obtain ⟨w1, hw1⟩ : ∃ w1, w1 = wa.alloc (.cells #[.int .i64 2, .int .i64 ln, .int .i64 n, .string X, .slice a m c] 41) := ⟨_, rfl⟩
 have kb := Keeps.one wa (.cells #[.int .i64 2, .int .i64 ln, .int .i64 n, .string X, .slice a m c] 41)
 have LN : Loc w1 (fun _ => False) (w.heap.size + 1) [.int .i64 2, .int .i64 ln, .int .i64 n, .string X, .slice a m c] := by rw [hw1, ← e1]; exact Loc.new (fun h => h) [.int .i64 2, .int .i64 ln, .int .i64 n, .string X, .slice a m c] 41
 rw [← hw1] at kb ⊢
 generalize w.heap.size + 1 = PN at LN e1 ⊢
 generalize w.heap.size = PC at LC ⊢
 have LC := LC.keeps kb
 have K1 := Lib.hid (ka.trans kb (fun _ _ h => h))
 have c0 := LC.cells 0 _ rfl
 have b0 := LN.cells 0 _ rfl
 have b3 := LN.cells 3 _ rfl
 have b4 := LN.cells 4 _ rfl
 have HL := Lib.hid (And.intro LC LN)
 have FC : Hid (Calls Tryz.prog 46 #[.pointer (some ⟨q.P, 0, none⟩), .string X] w1 fun e w' => e = .returned (.tuple #[.agg #[.string SO, .int .i64 ot, .int .i64 os], .bool bk]) ∧ Keeps (fun _ => False) w1 w') := Lib.hid (by
  have hc := pfind_any (HH.out.keep K1.out) x hV
  rw [← HXX.out, hfv] at hc
  exact hc)
 generalize q.P = P at c0 FC LC HL ⊢
 clear hfv hV ka kb hwa hw1 e1 LC LN  
 go_wp2_with fail
 refine FC.out.mono ?_
 rintro e w2 ⟨rfl, k2⟩
 go_upto_region 3 with fail
 obtain ⟨P7, hP7⟩ : ∃ X, X = w2.heap.size := ⟨_, rfl⟩
 obtain ⟨w3, hw3⟩ : ∃ w3, w3 = w2.alloc (.cells #[.string SO, .int .i64 ot, .int .i64 os] 46) := ⟨_, rfl⟩
 have kc := Keeps.one w2 (.cells #[.string SO, .int .i64 ot, .int .i64 os] 46)
 have L7 : Loc w3 (fun _ => False) P7 [.string SO, .int .i64 ot, .int .i64 os] := by rw [hw3, hP7]; exact Loc.new (fun h => h) [.string SO, .int .i64 ot, .int .i64 os] 46
 rw [← hP7]
 rw [← hw3] at kc ⊢
 have k3 := k2.trans kc (fun _ _ h => h)
 have K3 := Lib.hid k3
 have o0 := L7.cells 0 _ rfl
 have o1 := L7.cells 1 _ rfl
 have o2 := L7.cells 2 _ rfl
 replace c0 := (k3.cell (cell_ltk c0) (fun h => h)).trans c0
 replace b0 := (k3.cell (cell_ltk b0) (fun h => h)).trans b0
 replace b3 := (k3.cell (cell_ltk b3) (fun h => h)).trans b3
 replace b4 := (k3.cell (cell_ltk b4) (fun h => h)).trans b4
 clear FC k2 kc hw3 hP7 k3 L7
 go_wp2_with fail
 go_ret2
 exact ⟨by first | done | rfl, K1.out.trans K3.out (fun _ _ h => h)⟩
set_option maxRecDepth 100000 in
set_option maxHeartbeats 16000000 in
theorem tells_k3 {w : World} {q : CkQ} {nd : List Nd} {fs : List Fnc} {w0 : World} {R : Nat → Prop} {s : CkS} (h : Ck w q nd fs w0 R s) (ln n : Int) (x : List UInt8) (a : Option Addr) (m c : Nat) (hV : s.V.length ≤ 1000) (SO : ByteArray) (ot os : Int) (bk : Bool) (hfv : findV s.V x = .tuple #[.agg #[.string SO, .int .i64 ot, .int .i64 os], .bool bk])   :
  Calls Tryz.prog 103 #[.pointer (some ⟨q.P, 0, none⟩), .agg #[.int .i64 3, .int .i64 ln, .int .i64 n, .string (ofL x), .slice a m c]] w fun e w' => e = .returned (.tuple #[.int .i64 3, .int .i64 0]) ∧ Keeps (fun _ => False) w w' := by
 have HH := Lib.hid h
 clear h
 obtain ⟨X, hX⟩ : ∃ X, X = ofL x := ⟨_, rfl⟩
 have HXX := Lib.hid hX
 rw [← hX]
 clear hX
 go_enter Tryz.func103, Tryz.ntmps103
 go_upto_region 1 with fail
 obtain ⟨wa, hwa⟩ : ∃ w1, w1 = w.alloc (.cells #[.pointer (some ⟨q.P, 0, none⟩)] 86) := ⟨_, rfl⟩
 have ka := Keeps.one w (.cells #[.pointer (some ⟨q.P, 0, none⟩)] 86)
 have LC := Loc.new (w := w) (R := fun _ => False) (fun h => h) [.pointer (some ⟨q.P, 0, none⟩)] 86
 have e1 : wa.heap.size = w.heap.size + 1 := by rw [hwa]; simp
 replace LC : Loc wa (fun _ => False) w.heap.size [.pointer (some ⟨q.P, 0, none⟩)] := by rw [hwa]; exact LC
 rw [← hwa] at ka ⊢
 obtain ⟨w1, hw1⟩ : ∃ w1, w1 = wa.alloc (.cells #[.int .i64 3, .int .i64 ln, .int .i64 n, .string X, .slice a m c] 41) := ⟨_, rfl⟩
 have kb := Keeps.one wa (.cells #[.int .i64 3, .int .i64 ln, .int .i64 n, .string X, .slice a m c] 41)
 have LN : Loc w1 (fun _ => False) (w.heap.size + 1) [.int .i64 3, .int .i64 ln, .int .i64 n, .string X, .slice a m c] := by rw [hw1, ← e1]; exact Loc.new (fun h => h) [.int .i64 3, .int .i64 ln, .int .i64 n, .string X, .slice a m c] 41
 rw [← hw1] at kb ⊢
 generalize w.heap.size + 1 = PN at LN e1 ⊢
 generalize w.heap.size = PC at LC ⊢
 have LC := LC.keeps kb
 have K1 := Lib.hid (ka.trans kb (fun _ _ h => h))
 have c0 := LC.cells 0 _ rfl
 have b0 := LN.cells 0 _ rfl
 have b3 := LN.cells 3 _ rfl
 have b4 := LN.cells 4 _ rfl
 have HL := Lib.hid (And.intro LC LN)
 have FC : Hid (Calls Tryz.prog 46 #[.pointer (some ⟨q.P, 0, none⟩), .string X] w1 fun e w' => e = .returned (.tuple #[.agg #[.string SO, .int .i64 ot, .int .i64 os], .bool bk]) ∧ Keeps (fun _ => False) w1 w') := Lib.hid (by
  have hc := pfind_any (HH.out.keep K1.out) x hV
  rw [← HXX.out, hfv] at hc
  exact hc)
 generalize q.P = P at c0 FC LC HL ⊢
 clear hfv hV ka kb hwa hw1 e1 LC LN  
 go_wp2_with fail
 refine FC.out.mono ?_
 rintro e w2 ⟨rfl, k2⟩
 go_upto_region 3 with fail
 obtain ⟨P7, hP7⟩ : ∃ X, X = w2.heap.size := ⟨_, rfl⟩
 obtain ⟨w3, hw3⟩ : ∃ w3, w3 = w2.alloc (.cells #[.string SO, .int .i64 ot, .int .i64 os] 46) := ⟨_, rfl⟩
 have kc := Keeps.one w2 (.cells #[.string SO, .int .i64 ot, .int .i64 os] 46)
 have L7 : Loc w3 (fun _ => False) P7 [.string SO, .int .i64 ot, .int .i64 os] := by rw [hw3, hP7]; exact Loc.new (fun h => h) [.string SO, .int .i64 ot, .int .i64 os] 46
 rw [← hP7]
 rw [← hw3] at kc ⊢
 have k3 := k2.trans kc (fun _ _ h => h)
 have K3 := Lib.hid k3
 have o0 := L7.cells 0 _ rfl
 have o1 := L7.cells 1 _ rfl
 have o2 := L7.cells 2 _ rfl
 replace c0 := (k3.cell (cell_ltk c0) (fun h => h)).trans c0
 replace b0 := (k3.cell (cell_ltk b0) (fun h => h)).trans b0
 replace b3 := (k3.cell (cell_ltk b3) (fun h => h)).trans b3
 replace b4 := (k3.cell (cell_ltk b4) (fun h => h)).trans b4
 clear FC k2 kc hw3 hP7 k3 L7
 go_wp2_with fail
 go_ret2
 exact ⟨by first | done | rfl, K1.out.trans K3.out (fun _ _ h => h)⟩
set_option maxRecDepth 100000 in
set_option maxHeartbeats 16000000 in
theorem tells_var {w : World} {q : CkQ} {nd : List Nd} {fs : List Fnc} {w0 : World} {R : Nat → Prop} {s : CkS} (h : Ck w q nd fs w0 R s) (ln n : Int) (x : List UInt8) (a : Option Addr) (m c : Nat) (hV : s.V.length ≤ 1000) (SO : ByteArray) (ot os : Int) (bk : Bool) (hfv : findV s.V x = .tuple #[.agg #[.string SO, .int .i64 ot, .int .i64 os], .bool bk])   :
  Calls Tryz.prog 103 #[.pointer (some ⟨q.P, 0, none⟩), .agg #[.int .i64 4, .int .i64 ln, .int .i64 n, .string (ofL x), .slice a m c]] w fun e w' => e = .returned (.tuple #[.int .i64 ot, .int .i64 0]) ∧ Keeps (fun _ => False) w w' := by
 have HH := Lib.hid h
 clear h
 obtain ⟨X, hX⟩ : ∃ X, X = ofL x := ⟨_, rfl⟩
 have HXX := Lib.hid hX
 rw [← hX]
 clear hX
 go_enter Tryz.func103, Tryz.ntmps103
 go_upto_region 1 with fail
 obtain ⟨wa, hwa⟩ : ∃ w1, w1 = w.alloc (.cells #[.pointer (some ⟨q.P, 0, none⟩)] 86) := ⟨_, rfl⟩
 have ka := Keeps.one w (.cells #[.pointer (some ⟨q.P, 0, none⟩)] 86)
 have LC := Loc.new (w := w) (R := fun _ => False) (fun h => h) [.pointer (some ⟨q.P, 0, none⟩)] 86
 have e1 : wa.heap.size = w.heap.size + 1 := by rw [hwa]; simp
 replace LC : Loc wa (fun _ => False) w.heap.size [.pointer (some ⟨q.P, 0, none⟩)] := by rw [hwa]; exact LC
 rw [← hwa] at ka ⊢
 obtain ⟨w1, hw1⟩ : ∃ w1, w1 = wa.alloc (.cells #[.int .i64 4, .int .i64 ln, .int .i64 n, .string X, .slice a m c] 41) := ⟨_, rfl⟩
 have kb := Keeps.one wa (.cells #[.int .i64 4, .int .i64 ln, .int .i64 n, .string X, .slice a m c] 41)
 have LN : Loc w1 (fun _ => False) (w.heap.size + 1) [.int .i64 4, .int .i64 ln, .int .i64 n, .string X, .slice a m c] := by rw [hw1, ← e1]; exact Loc.new (fun h => h) [.int .i64 4, .int .i64 ln, .int .i64 n, .string X, .slice a m c] 41
 rw [← hw1] at kb ⊢
 generalize w.heap.size + 1 = PN at LN e1 ⊢
 generalize w.heap.size = PC at LC ⊢
 have LC := LC.keeps kb
 have K1 := Lib.hid (ka.trans kb (fun _ _ h => h))
 have c0 := LC.cells 0 _ rfl
 have b0 := LN.cells 0 _ rfl
 have b3 := LN.cells 3 _ rfl
 have b4 := LN.cells 4 _ rfl
 have HL := Lib.hid (And.intro LC LN)
 have FC : Hid (Calls Tryz.prog 46 #[.pointer (some ⟨q.P, 0, none⟩), .string X] w1 fun e w' => e = .returned (.tuple #[.agg #[.string SO, .int .i64 ot, .int .i64 os], .bool bk]) ∧ Keeps (fun _ => False) w1 w') := Lib.hid (by
  have hc := pfind_any (HH.out.keep K1.out) x hV
  rw [← HXX.out, hfv] at hc
  exact hc)
 generalize q.P = P at c0 FC LC HL ⊢
 clear hfv hV ka kb hwa hw1 e1 LC LN  
 go_wp2_with fail
 refine FC.out.mono ?_
 rintro e w2 ⟨rfl, k2⟩
 go_upto_region 3 with fail
 obtain ⟨P7, hP7⟩ : ∃ X, X = w2.heap.size := ⟨_, rfl⟩
 obtain ⟨w3, hw3⟩ : ∃ w3, w3 = w2.alloc (.cells #[.string SO, .int .i64 ot, .int .i64 os] 46) := ⟨_, rfl⟩
 have kc := Keeps.one w2 (.cells #[.string SO, .int .i64 ot, .int .i64 os] 46)
 have L7 : Loc w3 (fun _ => False) P7 [.string SO, .int .i64 ot, .int .i64 os] := by rw [hw3, hP7]; exact Loc.new (fun h => h) [.string SO, .int .i64 ot, .int .i64 os] 46
 rw [← hP7]
 rw [← hw3] at kc ⊢
 have k3 := k2.trans kc (fun _ _ h => h)
 have K3 := Lib.hid k3
 have o0 := L7.cells 0 _ rfl
 have o1 := L7.cells 1 _ rfl
 have o2 := L7.cells 2 _ rfl
 replace c0 := (k3.cell (cell_ltk c0) (fun h => h)).trans c0
 replace b0 := (k3.cell (cell_ltk b0) (fun h => h)).trans b0
 replace b3 := (k3.cell (cell_ltk b3) (fun h => h)).trans b3
 replace b4 := (k3.cell (cell_ltk b4) (fun h => h)).trans b4
 clear FC k2 kc hw3 hP7 k3 L7
 go_wp2_with fail
 go_ret2
 exact ⟨by first | done | rfl, K1.out.trans K3.out (fun _ _ h => h)⟩
set_option maxRecDepth 100000 in
set_option maxHeartbeats 16000000 in
theorem tells_neg_ok {w : World} {q : CkQ} {nd : List Nd} {fs : List Fnc} {w0 : World} {R : Nat → Prop} {s : CkS} (h : Ck w q nd fs w0 R s) (ln n : Int) (x : List UInt8) (a : Option Addr) (m c : Nat) (hV : s.V.length ≤ 1000) (SO : ByteArray) (ot os : Int) (bk : Bool) (hfv : findV s.V x = .tuple #[.agg #[.string SO, .int .i64 ot, .int .i64 os], .bool bk]) (l : List Int) (hl : l.length = m) (hr : RdI w0 a l) (i0 : Nat) (hlk0 : l[0]? = some (i0 : Int)) (him0 : i0 < q.m) (t0 : Int) (hti0 : s.ty[i0]? = some t0) (h0 : (t0 == 1) = true) :
  Calls Tryz.prog 103 #[.pointer (some ⟨q.P, 0, none⟩), .agg #[.int .i64 7, .int .i64 ln, .int .i64 n, .string (ofL x), .slice a m c]] w fun e w' => e = .returned (.tuple #[.int .i64 1, .int .i64 0]) ∧ Keeps (fun _ => False) w w' := by
 have HH := Lib.hid h
 clear h
 obtain ⟨X, hX⟩ : ∃ X, X = ofL x := ⟨_, rfl⟩
 have HXX := Lib.hid hX
 rw [← hX]
 clear hX
 go_enter Tryz.func103, Tryz.ntmps103
 go_upto_region 1 with fail
 obtain ⟨wa, hwa⟩ : ∃ w1, w1 = w.alloc (.cells #[.pointer (some ⟨q.P, 0, none⟩)] 86) := ⟨_, rfl⟩
 have ka := Keeps.one w (.cells #[.pointer (some ⟨q.P, 0, none⟩)] 86)
 have LC := Loc.new (w := w) (R := fun _ => False) (fun h => h) [.pointer (some ⟨q.P, 0, none⟩)] 86
 have e1 : wa.heap.size = w.heap.size + 1 := by rw [hwa]; simp
 replace LC : Loc wa (fun _ => False) w.heap.size [.pointer (some ⟨q.P, 0, none⟩)] := by rw [hwa]; exact LC
 rw [← hwa] at ka ⊢
 obtain ⟨w1, hw1⟩ : ∃ w1, w1 = wa.alloc (.cells #[.int .i64 7, .int .i64 ln, .int .i64 n, .string X, .slice a m c] 41) := ⟨_, rfl⟩
 have kb := Keeps.one wa (.cells #[.int .i64 7, .int .i64 ln, .int .i64 n, .string X, .slice a m c] 41)
 have LN : Loc w1 (fun _ => False) (w.heap.size + 1) [.int .i64 7, .int .i64 ln, .int .i64 n, .string X, .slice a m c] := by rw [hw1, ← e1]; exact Loc.new (fun h => h) [.int .i64 7, .int .i64 ln, .int .i64 n, .string X, .slice a m c] 41
 rw [← hw1] at kb ⊢
 generalize w.heap.size + 1 = PN at LN e1 ⊢
 generalize w.heap.size = PC at LC ⊢
 have LC := LC.keeps kb
 have K1 := Lib.hid (ka.trans kb (fun _ _ h => h))
 have c0 := LC.cells 0 _ rfl
 have b0 := LN.cells 0 _ rfl
 have b3 := LN.cells 3 _ rfl
 have b4 := LN.cells 4 _ rfl
 have HL := Lib.hid (And.intro LC LN)
 have FC : Hid (Calls Tryz.prog 46 #[.pointer (some ⟨q.P, 0, none⟩), .string X] w1 fun e w' => e = .returned (.tuple #[.agg #[.string SO, .int .i64 ot, .int .i64 os], .bool bk]) ∧ Keeps (fun _ => False) w1 w') := Lib.hid (by
  have hc := pfind_any (HH.out.keep K1.out) x hV
  rw [← HXX.out, hfv] at hc
  exact hc)
 have B0 : Hid (∀ w', Keeps (fun _ => False) w1 w' → Calls Tryz.prog 128 #[.int .i64 0, .pointer (some ⟨PC, 0, none⟩), .pointer (some ⟨PN, 0, none⟩)] w' fun e w'' => e = .returned (.int .i64 t0) ∧ Keeps (fun _ => False) w1 w'') := Lib.hid (fun w' k => by
  have hc := pbelow_any ((HH.out.keep K1.out).keep k) PC PN a m c ((HL.out.1.keeps k).cells 0 _ rfl) ((HL.out.2.keeps k).cells 4 _ rfl) l hl hr 0 i0 hlk0 him0 t0 hti0
  exact hc.mono (fun e w'' h => And.intro h.1 (k.trans h.2 (fun _ _ h => h))))
 generalize q.P = P at c0 FC LC HL ⊢
 clear hfv hV ka kb hwa hw1 e1 LC LN hlk0 him0 hti0 hl hr
 go_wp2_with fail
 refine FC.out.mono ?_
 rintro e w2 ⟨rfl, k2⟩
 go_upto_region 3 with fail
 obtain ⟨P7, hP7⟩ : ∃ X, X = w2.heap.size := ⟨_, rfl⟩
 obtain ⟨w3, hw3⟩ : ∃ w3, w3 = w2.alloc (.cells #[.string SO, .int .i64 ot, .int .i64 os] 46) := ⟨_, rfl⟩
 have kc := Keeps.one w2 (.cells #[.string SO, .int .i64 ot, .int .i64 os] 46)
 have L7 : Loc w3 (fun _ => False) P7 [.string SO, .int .i64 ot, .int .i64 os] := by rw [hw3, hP7]; exact Loc.new (fun h => h) [.string SO, .int .i64 ot, .int .i64 os] 46
 rw [← hP7]
 rw [← hw3] at kc ⊢
 have k3 := k2.trans kc (fun _ _ h => h)
 have K3 := Lib.hid k3
 have o0 := L7.cells 0 _ rfl
 have o1 := L7.cells 1 _ rfl
 have o2 := L7.cells 2 _ rfl
 replace c0 := (k3.cell (cell_ltk c0) (fun h => h)).trans c0
 replace b0 := (k3.cell (cell_ltk b0) (fun h => h)).trans b0
 replace b3 := (k3.cell (cell_ltk b3) (fun h => h)).trans b3
 replace b4 := (k3.cell (cell_ltk b4) (fun h => h)).trans b4
 clear FC k2 kc hw3 hP7 k3 L7
 go_wp2_with fail
 refine (B0.out _ K3.out).mono ?_
 rintro e w4 ⟨rfl, k4⟩
 clear B0
 go_wp2_with fail
 go_ret2
 exact ⟨by first | done | rfl, K1.out.trans k4 (fun _ _ h => h)⟩
set_option maxRecDepth 100000 in
set_option maxHeartbeats 16000000 in
theorem tells_neg_no {w : World} {q : CkQ} {nd : List Nd} {fs : List Fnc} {w0 : World} {R : Nat → Prop} {s : CkS} (h : Ck w q nd fs w0 R s) (ln n : Int) (x : List UInt8) (a : Option Addr) (m c : Nat) (hV : s.V.length ≤ 1000) (SO : ByteArray) (ot os : Int) (bk : Bool) (hfv : findV s.V x = .tuple #[.agg #[.string SO, .int .i64 ot, .int .i64 os], .bool bk]) (l : List Int) (hl : l.length = m) (hr : RdI w0 a l) (i0 : Nat) (hlk0 : l[0]? = some (i0 : Int)) (him0 : i0 < q.m) (t0 : Int) (hti0 : s.ty[i0]? = some t0) (h0 : (t0 == 1) = false) :
  Calls Tryz.prog 103 #[.pointer (some ⟨q.P, 0, none⟩), .agg #[.int .i64 7, .int .i64 ln, .int .i64 n, .string (ofL x), .slice a m c]] w fun e w' => e = .returned (.tuple #[.int .i64 0, .int .i64 42]) ∧ Keeps (fun _ => False) w w' := by
 have HH := Lib.hid h
 clear h
 obtain ⟨X, hX⟩ : ∃ X, X = ofL x := ⟨_, rfl⟩
 have HXX := Lib.hid hX
 rw [← hX]
 clear hX
 go_enter Tryz.func103, Tryz.ntmps103
 go_upto_region 1 with fail
 obtain ⟨wa, hwa⟩ : ∃ w1, w1 = w.alloc (.cells #[.pointer (some ⟨q.P, 0, none⟩)] 86) := ⟨_, rfl⟩
 have ka := Keeps.one w (.cells #[.pointer (some ⟨q.P, 0, none⟩)] 86)
 have LC := Loc.new (w := w) (R := fun _ => False) (fun h => h) [.pointer (some ⟨q.P, 0, none⟩)] 86
 have e1 : wa.heap.size = w.heap.size + 1 := by rw [hwa]; simp
 replace LC : Loc wa (fun _ => False) w.heap.size [.pointer (some ⟨q.P, 0, none⟩)] := by rw [hwa]; exact LC
 rw [← hwa] at ka ⊢
 obtain ⟨w1, hw1⟩ : ∃ w1, w1 = wa.alloc (.cells #[.int .i64 7, .int .i64 ln, .int .i64 n, .string X, .slice a m c] 41) := ⟨_, rfl⟩
 have kb := Keeps.one wa (.cells #[.int .i64 7, .int .i64 ln, .int .i64 n, .string X, .slice a m c] 41)
 have LN : Loc w1 (fun _ => False) (w.heap.size + 1) [.int .i64 7, .int .i64 ln, .int .i64 n, .string X, .slice a m c] := by rw [hw1, ← e1]; exact Loc.new (fun h => h) [.int .i64 7, .int .i64 ln, .int .i64 n, .string X, .slice a m c] 41
 rw [← hw1] at kb ⊢
 generalize w.heap.size + 1 = PN at LN e1 ⊢
 generalize w.heap.size = PC at LC ⊢
 have LC := LC.keeps kb
 have K1 := Lib.hid (ka.trans kb (fun _ _ h => h))
 have c0 := LC.cells 0 _ rfl
 have b0 := LN.cells 0 _ rfl
 have b3 := LN.cells 3 _ rfl
 have b4 := LN.cells 4 _ rfl
 have HL := Lib.hid (And.intro LC LN)
 have FC : Hid (Calls Tryz.prog 46 #[.pointer (some ⟨q.P, 0, none⟩), .string X] w1 fun e w' => e = .returned (.tuple #[.agg #[.string SO, .int .i64 ot, .int .i64 os], .bool bk]) ∧ Keeps (fun _ => False) w1 w') := Lib.hid (by
  have hc := pfind_any (HH.out.keep K1.out) x hV
  rw [← HXX.out, hfv] at hc
  exact hc)
 have B0 : Hid (∀ w', Keeps (fun _ => False) w1 w' → Calls Tryz.prog 128 #[.int .i64 0, .pointer (some ⟨PC, 0, none⟩), .pointer (some ⟨PN, 0, none⟩)] w' fun e w'' => e = .returned (.int .i64 t0) ∧ Keeps (fun _ => False) w1 w'') := Lib.hid (fun w' k => by
  have hc := pbelow_any ((HH.out.keep K1.out).keep k) PC PN a m c ((HL.out.1.keeps k).cells 0 _ rfl) ((HL.out.2.keeps k).cells 4 _ rfl) l hl hr 0 i0 hlk0 him0 t0 hti0
  exact hc.mono (fun e w'' h => And.intro h.1 (k.trans h.2 (fun _ _ h => h))))
 generalize q.P = P at c0 FC LC HL ⊢
 clear hfv hV ka kb hwa hw1 e1 LC LN hlk0 him0 hti0 hl hr
 go_wp2_with fail
 refine FC.out.mono ?_
 rintro e w2 ⟨rfl, k2⟩
 go_upto_region 3 with fail
 obtain ⟨P7, hP7⟩ : ∃ X, X = w2.heap.size := ⟨_, rfl⟩
 obtain ⟨w3, hw3⟩ : ∃ w3, w3 = w2.alloc (.cells #[.string SO, .int .i64 ot, .int .i64 os] 46) := ⟨_, rfl⟩
 have kc := Keeps.one w2 (.cells #[.string SO, .int .i64 ot, .int .i64 os] 46)
 have L7 : Loc w3 (fun _ => False) P7 [.string SO, .int .i64 ot, .int .i64 os] := by rw [hw3, hP7]; exact Loc.new (fun h => h) [.string SO, .int .i64 ot, .int .i64 os] 46
 rw [← hP7]
 rw [← hw3] at kc ⊢
 have k3 := k2.trans kc (fun _ _ h => h)
 have K3 := Lib.hid k3
 have o0 := L7.cells 0 _ rfl
 have o1 := L7.cells 1 _ rfl
 have o2 := L7.cells 2 _ rfl
 replace c0 := (k3.cell (cell_ltk c0) (fun h => h)).trans c0
 replace b0 := (k3.cell (cell_ltk b0) (fun h => h)).trans b0
 replace b3 := (k3.cell (cell_ltk b3) (fun h => h)).trans b3
 replace b4 := (k3.cell (cell_ltk b4) (fun h => h)).trans b4
 clear FC k2 kc hw3 hP7 k3 L7
 go_wp2_with fail
 refine (B0.out _ K3.out).mono ?_
 rintro e w4 ⟨rfl, k4⟩
 clear B0
 go_wp2_with fail
 go_ret2
 exact ⟨by first | done | rfl, K1.out.trans k4 (fun _ _ h => h)⟩
set_option maxRecDepth 100000 in
set_option maxHeartbeats 16000000 in
theorem tells_not_ok {w : World} {q : CkQ} {nd : List Nd} {fs : List Fnc} {w0 : World} {R : Nat → Prop} {s : CkS} (h : Ck w q nd fs w0 R s) (ln n : Int) (x : List UInt8) (a : Option Addr) (m c : Nat) (hV : s.V.length ≤ 1000) (SO : ByteArray) (ot os : Int) (bk : Bool) (hfv : findV s.V x = .tuple #[.agg #[.string SO, .int .i64 ot, .int .i64 os], .bool bk]) (l : List Int) (hl : l.length = m) (hr : RdI w0 a l) (i0 : Nat) (hlk0 : l[0]? = some (i0 : Int)) (him0 : i0 < q.m) (t0 : Int) (hti0 : s.ty[i0]? = some t0) (h0 : (t0 == 2) = true) :
  Calls Tryz.prog 103 #[.pointer (some ⟨q.P, 0, none⟩), .agg #[.int .i64 8, .int .i64 ln, .int .i64 n, .string (ofL x), .slice a m c]] w fun e w' => e = .returned (.tuple #[.int .i64 2, .int .i64 0]) ∧ Keeps (fun _ => False) w w' := by
 have HH := Lib.hid h
 clear h
 obtain ⟨X, hX⟩ : ∃ X, X = ofL x := ⟨_, rfl⟩
 have HXX := Lib.hid hX
 rw [← hX]
 clear hX
 go_enter Tryz.func103, Tryz.ntmps103
 go_upto_region 1 with fail
 obtain ⟨wa, hwa⟩ : ∃ w1, w1 = w.alloc (.cells #[.pointer (some ⟨q.P, 0, none⟩)] 86) := ⟨_, rfl⟩
 have ka := Keeps.one w (.cells #[.pointer (some ⟨q.P, 0, none⟩)] 86)
 have LC := Loc.new (w := w) (R := fun _ => False) (fun h => h) [.pointer (some ⟨q.P, 0, none⟩)] 86
 have e1 : wa.heap.size = w.heap.size + 1 := by rw [hwa]; simp
 replace LC : Loc wa (fun _ => False) w.heap.size [.pointer (some ⟨q.P, 0, none⟩)] := by rw [hwa]; exact LC
 rw [← hwa] at ka ⊢
 obtain ⟨w1, hw1⟩ : ∃ w1, w1 = wa.alloc (.cells #[.int .i64 8, .int .i64 ln, .int .i64 n, .string X, .slice a m c] 41) := ⟨_, rfl⟩
 have kb := Keeps.one wa (.cells #[.int .i64 8, .int .i64 ln, .int .i64 n, .string X, .slice a m c] 41)
 have LN : Loc w1 (fun _ => False) (w.heap.size + 1) [.int .i64 8, .int .i64 ln, .int .i64 n, .string X, .slice a m c] := by rw [hw1, ← e1]; exact Loc.new (fun h => h) [.int .i64 8, .int .i64 ln, .int .i64 n, .string X, .slice a m c] 41
 rw [← hw1] at kb ⊢
 generalize w.heap.size + 1 = PN at LN e1 ⊢
 generalize w.heap.size = PC at LC ⊢
 have LC := LC.keeps kb
 have K1 := Lib.hid (ka.trans kb (fun _ _ h => h))
 have c0 := LC.cells 0 _ rfl
 have b0 := LN.cells 0 _ rfl
 have b3 := LN.cells 3 _ rfl
 have b4 := LN.cells 4 _ rfl
 have HL := Lib.hid (And.intro LC LN)
 have FC : Hid (Calls Tryz.prog 46 #[.pointer (some ⟨q.P, 0, none⟩), .string X] w1 fun e w' => e = .returned (.tuple #[.agg #[.string SO, .int .i64 ot, .int .i64 os], .bool bk]) ∧ Keeps (fun _ => False) w1 w') := Lib.hid (by
  have hc := pfind_any (HH.out.keep K1.out) x hV
  rw [← HXX.out, hfv] at hc
  exact hc)
 have B0 : Hid (∀ w', Keeps (fun _ => False) w1 w' → Calls Tryz.prog 128 #[.int .i64 0, .pointer (some ⟨PC, 0, none⟩), .pointer (some ⟨PN, 0, none⟩)] w' fun e w'' => e = .returned (.int .i64 t0) ∧ Keeps (fun _ => False) w1 w'') := Lib.hid (fun w' k => by
  have hc := pbelow_any ((HH.out.keep K1.out).keep k) PC PN a m c ((HL.out.1.keeps k).cells 0 _ rfl) ((HL.out.2.keeps k).cells 4 _ rfl) l hl hr 0 i0 hlk0 him0 t0 hti0
  exact hc.mono (fun e w'' h => And.intro h.1 (k.trans h.2 (fun _ _ h => h))))
 generalize q.P = P at c0 FC LC HL ⊢
 clear hfv hV ka kb hwa hw1 e1 LC LN hlk0 him0 hti0 hl hr
 go_wp2_with fail
 refine FC.out.mono ?_
 rintro e w2 ⟨rfl, k2⟩
 go_upto_region 3 with fail
 obtain ⟨P7, hP7⟩ : ∃ X, X = w2.heap.size := ⟨_, rfl⟩
 obtain ⟨w3, hw3⟩ : ∃ w3, w3 = w2.alloc (.cells #[.string SO, .int .i64 ot, .int .i64 os] 46) := ⟨_, rfl⟩
 have kc := Keeps.one w2 (.cells #[.string SO, .int .i64 ot, .int .i64 os] 46)
 have L7 : Loc w3 (fun _ => False) P7 [.string SO, .int .i64 ot, .int .i64 os] := by rw [hw3, hP7]; exact Loc.new (fun h => h) [.string SO, .int .i64 ot, .int .i64 os] 46
 rw [← hP7]
 rw [← hw3] at kc ⊢
 have k3 := k2.trans kc (fun _ _ h => h)
 have K3 := Lib.hid k3
 have o0 := L7.cells 0 _ rfl
 have o1 := L7.cells 1 _ rfl
 have o2 := L7.cells 2 _ rfl
 replace c0 := (k3.cell (cell_ltk c0) (fun h => h)).trans c0
 replace b0 := (k3.cell (cell_ltk b0) (fun h => h)).trans b0
 replace b3 := (k3.cell (cell_ltk b3) (fun h => h)).trans b3
 replace b4 := (k3.cell (cell_ltk b4) (fun h => h)).trans b4
 clear FC k2 kc hw3 hP7 k3 L7
 go_wp2_with fail
 refine (B0.out _ K3.out).mono ?_
 rintro e w4 ⟨rfl, k4⟩
 clear B0
 go_wp2_with fail
 go_ret2
 exact ⟨by first | done | rfl, K1.out.trans k4 (fun _ _ h => h)⟩
set_option maxRecDepth 100000 in
set_option maxHeartbeats 16000000 in
theorem tells_not_no {w : World} {q : CkQ} {nd : List Nd} {fs : List Fnc} {w0 : World} {R : Nat → Prop} {s : CkS} (h : Ck w q nd fs w0 R s) (ln n : Int) (x : List UInt8) (a : Option Addr) (m c : Nat) (hV : s.V.length ≤ 1000) (SO : ByteArray) (ot os : Int) (bk : Bool) (hfv : findV s.V x = .tuple #[.agg #[.string SO, .int .i64 ot, .int .i64 os], .bool bk]) (l : List Int) (hl : l.length = m) (hr : RdI w0 a l) (i0 : Nat) (hlk0 : l[0]? = some (i0 : Int)) (him0 : i0 < q.m) (t0 : Int) (hti0 : s.ty[i0]? = some t0) (h0 : (t0 == 2) = false) :
  Calls Tryz.prog 103 #[.pointer (some ⟨q.P, 0, none⟩), .agg #[.int .i64 8, .int .i64 ln, .int .i64 n, .string (ofL x), .slice a m c]] w fun e w' => e = .returned (.tuple #[.int .i64 0, .int .i64 42]) ∧ Keeps (fun _ => False) w w' := by
 have HH := Lib.hid h
 clear h
 obtain ⟨X, hX⟩ : ∃ X, X = ofL x := ⟨_, rfl⟩
 have HXX := Lib.hid hX
 rw [← hX]
 clear hX
 go_enter Tryz.func103, Tryz.ntmps103
 go_upto_region 1 with fail
 obtain ⟨wa, hwa⟩ : ∃ w1, w1 = w.alloc (.cells #[.pointer (some ⟨q.P, 0, none⟩)] 86) := ⟨_, rfl⟩
 have ka := Keeps.one w (.cells #[.pointer (some ⟨q.P, 0, none⟩)] 86)
 have LC := Loc.new (w := w) (R := fun _ => False) (fun h => h) [.pointer (some ⟨q.P, 0, none⟩)] 86
 have e1 : wa.heap.size = w.heap.size + 1 := by rw [hwa]; simp
 replace LC : Loc wa (fun _ => False) w.heap.size [.pointer (some ⟨q.P, 0, none⟩)] := by rw [hwa]; exact LC
 rw [← hwa] at ka ⊢
 obtain ⟨w1, hw1⟩ : ∃ w1, w1 = wa.alloc (.cells #[.int .i64 8, .int .i64 ln, .int .i64 n, .string X, .slice a m c] 41) := ⟨_, rfl⟩
 have kb := Keeps.one wa (.cells #[.int .i64 8, .int .i64 ln, .int .i64 n, .string X, .slice a m c] 41)
 have LN : Loc w1 (fun _ => False) (w.heap.size + 1) [.int .i64 8, .int .i64 ln, .int .i64 n, .string X, .slice a m c] := by rw [hw1, ← e1]; exact Loc.new (fun h => h) [.int .i64 8, .int .i64 ln, .int .i64 n, .string X, .slice a m c] 41
 rw [← hw1] at kb ⊢
 generalize w.heap.size + 1 = PN at LN e1 ⊢
 generalize w.heap.size = PC at LC ⊢
 have LC := LC.keeps kb
 have K1 := Lib.hid (ka.trans kb (fun _ _ h => h))
 have c0 := LC.cells 0 _ rfl
 have b0 := LN.cells 0 _ rfl
 have b3 := LN.cells 3 _ rfl
 have b4 := LN.cells 4 _ rfl
 have HL := Lib.hid (And.intro LC LN)
 have FC : Hid (Calls Tryz.prog 46 #[.pointer (some ⟨q.P, 0, none⟩), .string X] w1 fun e w' => e = .returned (.tuple #[.agg #[.string SO, .int .i64 ot, .int .i64 os], .bool bk]) ∧ Keeps (fun _ => False) w1 w') := Lib.hid (by
  have hc := pfind_any (HH.out.keep K1.out) x hV
  rw [← HXX.out, hfv] at hc
  exact hc)
 have B0 : Hid (∀ w', Keeps (fun _ => False) w1 w' → Calls Tryz.prog 128 #[.int .i64 0, .pointer (some ⟨PC, 0, none⟩), .pointer (some ⟨PN, 0, none⟩)] w' fun e w'' => e = .returned (.int .i64 t0) ∧ Keeps (fun _ => False) w1 w'') := Lib.hid (fun w' k => by
  have hc := pbelow_any ((HH.out.keep K1.out).keep k) PC PN a m c ((HL.out.1.keeps k).cells 0 _ rfl) ((HL.out.2.keeps k).cells 4 _ rfl) l hl hr 0 i0 hlk0 him0 t0 hti0
  exact hc.mono (fun e w'' h => And.intro h.1 (k.trans h.2 (fun _ _ h => h))))
 generalize q.P = P at c0 FC LC HL ⊢
 clear hfv hV ka kb hwa hw1 e1 LC LN hlk0 him0 hti0 hl hr
 go_wp2_with fail
 refine FC.out.mono ?_
 rintro e w2 ⟨rfl, k2⟩
 go_upto_region 3 with fail
 obtain ⟨P7, hP7⟩ : ∃ X, X = w2.heap.size := ⟨_, rfl⟩
 obtain ⟨w3, hw3⟩ : ∃ w3, w3 = w2.alloc (.cells #[.string SO, .int .i64 ot, .int .i64 os] 46) := ⟨_, rfl⟩
 have kc := Keeps.one w2 (.cells #[.string SO, .int .i64 ot, .int .i64 os] 46)
 have L7 : Loc w3 (fun _ => False) P7 [.string SO, .int .i64 ot, .int .i64 os] := by rw [hw3, hP7]; exact Loc.new (fun h => h) [.string SO, .int .i64 ot, .int .i64 os] 46
 rw [← hP7]
 rw [← hw3] at kc ⊢
 have k3 := k2.trans kc (fun _ _ h => h)
 have K3 := Lib.hid k3
 have o0 := L7.cells 0 _ rfl
 have o1 := L7.cells 1 _ rfl
 have o2 := L7.cells 2 _ rfl
 replace c0 := (k3.cell (cell_ltk c0) (fun h => h)).trans c0
 replace b0 := (k3.cell (cell_ltk b0) (fun h => h)).trans b0
 replace b3 := (k3.cell (cell_ltk b3) (fun h => h)).trans b3
 replace b4 := (k3.cell (cell_ltk b4) (fun h => h)).trans b4
 clear FC k2 kc hw3 hP7 k3 L7
 go_wp2_with fail
 refine (B0.out _ K3.out).mono ?_
 rintro e w4 ⟨rfl, k4⟩
 clear B0
 go_wp2_with fail
 go_ret2
 exact ⟨by first | done | rfl, K1.out.trans k4 (fun _ _ h => h)⟩
set_option maxRecDepth 100000 in
set_option maxHeartbeats 16000000 in
theorem tells_new_ok {w : World} {q : CkQ} {nd : List Nd} {fs : List Fnc} {w0 : World} {R : Nat → Prop} {s : CkS} (h : Ck w q nd fs w0 R s) (ln n : Int) (x : List UInt8) (a : Option Addr) (m c : Nat) (hV : s.V.length ≤ 1000) (SO : ByteArray) (ot os : Int) (bk : Bool) (hfv : findV s.V x = .tuple #[.agg #[.string SO, .int .i64 ot, .int .i64 os], .bool bk]) (l : List Int) (hl : l.length = m) (hr : RdI w0 a l) (i0 : Nat) (hlk0 : l[0]? = some (i0 : Int)) (him0 : i0 < q.m) (t0 : Int) (hti0 : s.ty[i0]? = some t0) (h0 : (t0 == 1) = true) :
  Calls Tryz.prog 103 #[.pointer (some ⟨q.P, 0, none⟩), .agg #[.int .i64 20, .int .i64 ln, .int .i64 n, .string (ofL x), .slice a m c]] w fun e w' => e = .returned (.tuple #[.int .i64 4, .int .i64 0]) ∧ Keeps (fun _ => False) w w' := by
 have HH := Lib.hid h
 clear h
 obtain ⟨X, hX⟩ : ∃ X, X = ofL x := ⟨_, rfl⟩
 have HXX := Lib.hid hX
 rw [← hX]
 clear hX
 go_enter Tryz.func103, Tryz.ntmps103
 go_upto_region 1 with fail
 obtain ⟨wa, hwa⟩ : ∃ w1, w1 = w.alloc (.cells #[.pointer (some ⟨q.P, 0, none⟩)] 86) := ⟨_, rfl⟩
 have ka := Keeps.one w (.cells #[.pointer (some ⟨q.P, 0, none⟩)] 86)
 have LC := Loc.new (w := w) (R := fun _ => False) (fun h => h) [.pointer (some ⟨q.P, 0, none⟩)] 86
 have e1 : wa.heap.size = w.heap.size + 1 := by rw [hwa]; simp
 replace LC : Loc wa (fun _ => False) w.heap.size [.pointer (some ⟨q.P, 0, none⟩)] := by rw [hwa]; exact LC
 rw [← hwa] at ka ⊢
 obtain ⟨w1, hw1⟩ : ∃ w1, w1 = wa.alloc (.cells #[.int .i64 20, .int .i64 ln, .int .i64 n, .string X, .slice a m c] 41) := ⟨_, rfl⟩
 have kb := Keeps.one wa (.cells #[.int .i64 20, .int .i64 ln, .int .i64 n, .string X, .slice a m c] 41)
 have LN : Loc w1 (fun _ => False) (w.heap.size + 1) [.int .i64 20, .int .i64 ln, .int .i64 n, .string X, .slice a m c] := by rw [hw1, ← e1]; exact Loc.new (fun h => h) [.int .i64 20, .int .i64 ln, .int .i64 n, .string X, .slice a m c] 41
 rw [← hw1] at kb ⊢
 generalize w.heap.size + 1 = PN at LN e1 ⊢
 generalize w.heap.size = PC at LC ⊢
 have LC := LC.keeps kb
 have K1 := Lib.hid (ka.trans kb (fun _ _ h => h))
 have c0 := LC.cells 0 _ rfl
 have b0 := LN.cells 0 _ rfl
 have b3 := LN.cells 3 _ rfl
 have b4 := LN.cells 4 _ rfl
 have HL := Lib.hid (And.intro LC LN)
 have FC : Hid (Calls Tryz.prog 46 #[.pointer (some ⟨q.P, 0, none⟩), .string X] w1 fun e w' => e = .returned (.tuple #[.agg #[.string SO, .int .i64 ot, .int .i64 os], .bool bk]) ∧ Keeps (fun _ => False) w1 w') := Lib.hid (by
  have hc := pfind_any (HH.out.keep K1.out) x hV
  rw [← HXX.out, hfv] at hc
  exact hc)
 have B0 : Hid (∀ w', Keeps (fun _ => False) w1 w' → Calls Tryz.prog 128 #[.int .i64 0, .pointer (some ⟨PC, 0, none⟩), .pointer (some ⟨PN, 0, none⟩)] w' fun e w'' => e = .returned (.int .i64 t0) ∧ Keeps (fun _ => False) w1 w'') := Lib.hid (fun w' k => by
  have hc := pbelow_any ((HH.out.keep K1.out).keep k) PC PN a m c ((HL.out.1.keeps k).cells 0 _ rfl) ((HL.out.2.keeps k).cells 4 _ rfl) l hl hr 0 i0 hlk0 him0 t0 hti0
  exact hc.mono (fun e w'' h => And.intro h.1 (k.trans h.2 (fun _ _ h => h))))
 generalize q.P = P at c0 FC LC HL ⊢
 clear hfv hV ka kb hwa hw1 e1 LC LN hlk0 him0 hti0 hl hr
 go_wp2_with fail
 refine FC.out.mono ?_
 rintro e w2 ⟨rfl, k2⟩
 go_upto_region 3 with fail
 obtain ⟨P7, hP7⟩ : ∃ X, X = w2.heap.size := ⟨_, rfl⟩
 obtain ⟨w3, hw3⟩ : ∃ w3, w3 = w2.alloc (.cells #[.string SO, .int .i64 ot, .int .i64 os] 46) := ⟨_, rfl⟩
 have kc := Keeps.one w2 (.cells #[.string SO, .int .i64 ot, .int .i64 os] 46)
 have L7 : Loc w3 (fun _ => False) P7 [.string SO, .int .i64 ot, .int .i64 os] := by rw [hw3, hP7]; exact Loc.new (fun h => h) [.string SO, .int .i64 ot, .int .i64 os] 46
 rw [← hP7]
 rw [← hw3] at kc ⊢
 have k3 := k2.trans kc (fun _ _ h => h)
 have K3 := Lib.hid k3
 have o0 := L7.cells 0 _ rfl
 have o1 := L7.cells 1 _ rfl
 have o2 := L7.cells 2 _ rfl
 replace c0 := (k3.cell (cell_ltk c0) (fun h => h)).trans c0
 replace b0 := (k3.cell (cell_ltk b0) (fun h => h)).trans b0
 replace b3 := (k3.cell (cell_ltk b3) (fun h => h)).trans b3
 replace b4 := (k3.cell (cell_ltk b4) (fun h => h)).trans b4
 clear FC k2 kc hw3 hP7 k3 L7
 go_wp2_with fail
 refine (B0.out _ K3.out).mono ?_
 rintro e w4 ⟨rfl, k4⟩
 clear B0
 go_wp2_with fail
 go_ret2
 exact ⟨by first | done | rfl, K1.out.trans k4 (fun _ _ h => h)⟩
set_option maxRecDepth 100000 in
set_option maxHeartbeats 16000000 in
theorem tells_new_no {w : World} {q : CkQ} {nd : List Nd} {fs : List Fnc} {w0 : World} {R : Nat → Prop} {s : CkS} (h : Ck w q nd fs w0 R s) (ln n : Int) (x : List UInt8) (a : Option Addr) (m c : Nat) (hV : s.V.length ≤ 1000) (SO : ByteArray) (ot os : Int) (bk : Bool) (hfv : findV s.V x = .tuple #[.agg #[.string SO, .int .i64 ot, .int .i64 os], .bool bk]) (l : List Int) (hl : l.length = m) (hr : RdI w0 a l) (i0 : Nat) (hlk0 : l[0]? = some (i0 : Int)) (him0 : i0 < q.m) (t0 : Int) (hti0 : s.ty[i0]? = some t0) (h0 : (t0 == 1) = false) :
  Calls Tryz.prog 103 #[.pointer (some ⟨q.P, 0, none⟩), .agg #[.int .i64 20, .int .i64 ln, .int .i64 n, .string (ofL x), .slice a m c]] w fun e w' => e = .returned (.tuple #[.int .i64 0, .int .i64 42]) ∧ Keeps (fun _ => False) w w' := by
 have HH := Lib.hid h
 clear h
 obtain ⟨X, hX⟩ : ∃ X, X = ofL x := ⟨_, rfl⟩
 have HXX := Lib.hid hX
 rw [← hX]
 clear hX
 go_enter Tryz.func103, Tryz.ntmps103
 go_upto_region 1 with fail
 obtain ⟨wa, hwa⟩ : ∃ w1, w1 = w.alloc (.cells #[.pointer (some ⟨q.P, 0, none⟩)] 86) := ⟨_, rfl⟩
 have ka := Keeps.one w (.cells #[.pointer (some ⟨q.P, 0, none⟩)] 86)
 have LC := Loc.new (w := w) (R := fun _ => False) (fun h => h) [.pointer (some ⟨q.P, 0, none⟩)] 86
 have e1 : wa.heap.size = w.heap.size + 1 := by rw [hwa]; simp
 replace LC : Loc wa (fun _ => False) w.heap.size [.pointer (some ⟨q.P, 0, none⟩)] := by rw [hwa]; exact LC
 rw [← hwa] at ka ⊢
 obtain ⟨w1, hw1⟩ : ∃ w1, w1 = wa.alloc (.cells #[.int .i64 20, .int .i64 ln, .int .i64 n, .string X, .slice a m c] 41) := ⟨_, rfl⟩
 have kb := Keeps.one wa (.cells #[.int .i64 20, .int .i64 ln, .int .i64 n, .string X, .slice a m c] 41)
 have LN : Loc w1 (fun _ => False) (w.heap.size + 1) [.int .i64 20, .int .i64 ln, .int .i64 n, .string X, .slice a m c] := by rw [hw1, ← e1]; exact Loc.new (fun h => h) [.int .i64 20, .int .i64 ln, .int .i64 n, .string X, .slice a m c] 41
 rw [← hw1] at kb ⊢
 generalize w.heap.size + 1 = PN at LN e1 ⊢
 generalize w.heap.size = PC at LC ⊢
 have LC := LC.keeps kb
 have K1 := Lib.hid (ka.trans kb (fun _ _ h => h))
 have c0 := LC.cells 0 _ rfl
 have b0 := LN.cells 0 _ rfl
 have b3 := LN.cells 3 _ rfl
 have b4 := LN.cells 4 _ rfl
 have HL := Lib.hid (And.intro LC LN)
 have FC : Hid (Calls Tryz.prog 46 #[.pointer (some ⟨q.P, 0, none⟩), .string X] w1 fun e w' => e = .returned (.tuple #[.agg #[.string SO, .int .i64 ot, .int .i64 os], .bool bk]) ∧ Keeps (fun _ => False) w1 w') := Lib.hid (by
  have hc := pfind_any (HH.out.keep K1.out) x hV
  rw [← HXX.out, hfv] at hc
  exact hc)
 have B0 : Hid (∀ w', Keeps (fun _ => False) w1 w' → Calls Tryz.prog 128 #[.int .i64 0, .pointer (some ⟨PC, 0, none⟩), .pointer (some ⟨PN, 0, none⟩)] w' fun e w'' => e = .returned (.int .i64 t0) ∧ Keeps (fun _ => False) w1 w'') := Lib.hid (fun w' k => by
  have hc := pbelow_any ((HH.out.keep K1.out).keep k) PC PN a m c ((HL.out.1.keeps k).cells 0 _ rfl) ((HL.out.2.keeps k).cells 4 _ rfl) l hl hr 0 i0 hlk0 him0 t0 hti0
  exact hc.mono (fun e w'' h => And.intro h.1 (k.trans h.2 (fun _ _ h => h))))
 generalize q.P = P at c0 FC LC HL ⊢
 clear hfv hV ka kb hwa hw1 e1 LC LN hlk0 him0 hti0 hl hr
 go_wp2_with fail
 refine FC.out.mono ?_
 rintro e w2 ⟨rfl, k2⟩
 go_upto_region 3 with fail
 obtain ⟨P7, hP7⟩ : ∃ X, X = w2.heap.size := ⟨_, rfl⟩
 obtain ⟨w3, hw3⟩ : ∃ w3, w3 = w2.alloc (.cells #[.string SO, .int .i64 ot, .int .i64 os] 46) := ⟨_, rfl⟩
 have kc := Keeps.one w2 (.cells #[.string SO, .int .i64 ot, .int .i64 os] 46)
 have L7 : Loc w3 (fun _ => False) P7 [.string SO, .int .i64 ot, .int .i64 os] := by rw [hw3, hP7]; exact Loc.new (fun h => h) [.string SO, .int .i64 ot, .int .i64 os] 46
 rw [← hP7]
 rw [← hw3] at kc ⊢
 have k3 := k2.trans kc (fun _ _ h => h)
 have K3 := Lib.hid k3
 have o0 := L7.cells 0 _ rfl
 have o1 := L7.cells 1 _ rfl
 have o2 := L7.cells 2 _ rfl
 replace c0 := (k3.cell (cell_ltk c0) (fun h => h)).trans c0
 replace b0 := (k3.cell (cell_ltk b0) (fun h => h)).trans b0
 replace b3 := (k3.cell (cell_ltk b3) (fun h => h)).trans b3
 replace b4 := (k3.cell (cell_ltk b4) (fun h => h)).trans b4
 clear FC k2 kc hw3 hP7 k3 L7
 go_wp2_with fail
 refine (B0.out _ K3.out).mono ?_
 rintro e w4 ⟨rfl, k4⟩
 clear B0
 go_wp2_with fail
 go_ret2
 exact ⟨by first | done | rfl, K1.out.trans k4 (fun _ _ h => h)⟩
end Go.Proofs.YtbhpnioggpgbhaaGreatDoor
