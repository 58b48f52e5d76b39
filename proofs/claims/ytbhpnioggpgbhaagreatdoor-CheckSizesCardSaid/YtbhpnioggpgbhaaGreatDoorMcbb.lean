/-
 Layer 4: the program's tells, the rest. Written by an AI agent.
-/
import Derived.Test.YtbhpnioggpgbhaaGreatDoorMcba
namespace Go.Proofs.YtbhpnioggpgbhaaGreatDoor
open Go Go.RowKit Go.Shelf
set_option linter.unusedVariables false
set_option linter.unusedSimpArgs false
set_option maxRecDepth 100000 in
set_option maxHeartbeats 16000000 in
theorem tells_index_own {w : World} {q : CkQ} {nd : List Nd} {fs : List Fnc} {w0 : World} {R : Nat → Prop} {s : CkS} (h : Ck w q nd fs w0 R s) (ln n : Int) (x : List UInt8) (a : Option Addr) (m c : Nat) (hV : s.V.length ≤ 1000) (SO : ByteArray) (ot os : Int) (bk : Bool) (hfv : findV s.V x = .tuple #[.agg #[.string SO, .int .i64 ot, .int .i64 os], .bool bk]) (l : List Int) (hl : l.length = m) (hr : RdI w0 a l) (i0 : Nat) (hlk0 : l[0]? = some (i0 : Int)) (him0 : i0 < q.m) (t0 : Int) (hti0 : s.ty[i0]? = some t0) (h4 : (ot == 4) = false) :
  Calls Tryz.prog 103 #[.pointer (some ⟨q.P, 0, none⟩), .agg #[.int .i64 5, .int .i64 ln, .int .i64 n, .string (ofL x), .slice a m c]] w fun e w' => e = .returned (.tuple #[.int .i64 0, .int .i64 42]) ∧ Keeps (fun _ => False) w w' := by
 have HH := Lib.hid h
 clear h
 obtain ⟨X, hX⟩ : ∃ X, X = ofL x := ⟨_, rfl⟩
 have HXX := Lib.hid hX
 rw [← hX]
 clear hX
 go_enter Tryz.func103, Tryz.ntmps103
 go_upto_region 1 with fail
 obtain ⟨wa, hwa⟩ : ∃ w1, w1 = w.alloc (.cells #[.pointer (some ⟨q.P, 0, none⟩)] 86) := ⟨_, rfl⟩
 have ka := Keeps.one w (.cells #[.pointer (some ⟨q.P, 0, none⟩)] 86)
 have LC := Loc.new (w := w) (R := fun _ => False) (fun h => h) [.pointer (some ⟨q.P, 0, none⟩)] 86
 have e1 : wa.heap.size = w.heap.size + 1 := by rw [hwa]; simp
 replace LC : Loc wa (fun _ => False) w.heap.size [.pointer (some ⟨q.P, 0, none⟩)] := by rw [hwa]; exact LC
 rw [← hwa] at ka ⊢
 obtain ⟨w1, hw1⟩ : ∃ w1, w1 = wa.alloc (.cells #[.int .i64 5, .int .i64 ln, .int .i64 n, .string X, .slice a m c] 41) := ⟨_, rfl⟩
 have kb := Keeps.one wa (.cells #[.int .i64 5, .int .i64 ln, .int .i64 n, .string X, .slice a m c] 41)
 have LN : Loc w1 (fun _ => False) (w.heap.size + 1) [.int .i64 5, .int .i64 ln, .int .i64 n, .string X, .slice a m c] := by rw [hw1, ← e1]; exact Loc.new (fun h => h) [.int .i64 5, .int .i64 ln, .int .i64 n, .string X, .slice a m c] 41
 rw [← hw1] at kb ⊢
 generalize w.heap.size + 1 = PN at LN e1 ⊢
 generalize w.heap.size = PC at LC ⊢
 have LC := LC.keeps kb
 have K1 := Lib.hid (ka.trans kb (fun _ _ h => h))
 have c0 := LC.cells 0 _ rfl
 have b0 := LN.cells 0 _ rfl
 have b3 := LN.cells 3 _ rfl
 have b4 := LN.cells 4 _ rfl
 have HL := Lib.hid (And.intro LC LN)
 have FC : Hid (Calls Tryz.prog 46 #[.pointer (some ⟨q.P, 0, none⟩), .string X] w1 fun e w' => e = .returned (.tuple #[.agg #[.string SO, .int .i64 ot, .int .i64 os], .bool bk]) ∧ Keeps (fun _ => False) w1 w') := Lib.hid (by
  have hc := pfind_any (HH.out.keep K1.out) x hV
  rw [← HXX.out, hfv] at hc
  exact hc)
 have B0 : Hid (∀ w', Keeps (fun _ => False) w1 w' → Calls Tryz.prog 128 #[.int .i64 0, .pointer (some ⟨PC, 0, none⟩), .pointer (some ⟨PN, 0, none⟩)] w' fun e w'' => e = .returned (.int .i64 t0) ∧ Keeps (fun _ => False) w1 w'') := Lib.hid (fun w' k => by
  have hc := pbelow_any ((HH.out.keep K1.out).keep k) PC PN a m c ((HL.out.1.keeps k).cells 0 _ rfl) ((HL.out.2.keeps k).cells 4 _ rfl) l hl hr 0 i0 hlk0 him0 t0 hti0
  exact hc.mono (fun e w'' h => And.intro h.1 (k.trans h.2 (fun _ _ h => h))))
 generalize q.P = P at c0 FC LC HL ⊢
 clear hfv hV ka kb hwa hw1 e1 LC LN hlk0 him0 hti0 hl hr
 go_wp2_with fail
 refine FC.out.mono ?_
 rintro e w2 ⟨rfl, k2⟩
 go_upto_region 3 with fail
 obtain ⟨P7, hP7⟩ : ∃ X, X = w2.heap.size := ⟨_, rfl⟩
 obtain ⟨w3, hw3⟩ : ∃ w3, w3 = w2.alloc (.cells #[.string SO, .int .i64 ot, .int .i64 os] 46) := ⟨_, rfl⟩
 have kc := Keeps.one w2 (.cells #[.string SO, .int .i64 ot, .int .i64 os] 46)
 have L7 : Loc w3 (fun _ => False) P7 [.string SO, .int .i64 ot, .int .i64 os] := by rw [hw3, hP7]; exact Loc.new (fun h => h) [.string SO, .int .i64 ot, .int .i64 os] 46
 rw [← hP7]
 rw [← hw3] at kc ⊢
 have k3 := k2.trans kc (fun _ _ h => h)
 have K3 := Lib.hid k3
 have o0 := L7.cells 0 _ rfl
 have o1 := L7.cells 1 _ rfl
 have o2 := L7.cells 2 _ rfl
 replace c0 := (k3.cell (cell_ltk c0) (fun h => h)).trans c0
 replace b0 := (k3.cell (cell_ltk b0) (fun h => h)).trans b0
 replace b3 := (k3.cell (cell_ltk b3) (fun h => h)).trans b3
 replace b4 := (k3.cell (cell_ltk b4) (fun h => h)).trans b4
 clear FC k2 kc hw3 hP7 k3 L7
 clear B0
 go_wp2_with fail
 go_ret2
 exact ⟨by first | done | rfl, K1.out.trans K3.out (fun _ _ h => h)⟩
set_option maxRecDepth 100000 in
set_option maxHeartbeats 16000000 in
theorem tells_index_ok {w : World} {q : CkQ} {nd : List Nd} {fs : List Fnc} {w0 : World} {R : Nat → Prop} {s : CkS} (h : Ck w q nd fs w0 R s) (ln n : Int) (x : List UInt8) (a : Option Addr) (m c : Nat) (hV : s.V.length ≤ 1000) (SO : ByteArray) (ot os : Int) (bk : Bool) (hfv : findV s.V x = .tuple #[.agg #[.string SO, .int .i64 ot, .int .i64 os], .bool bk]) (l : List Int) (hl : l.length = m) (hr : RdI w0 a l) (i0 : Nat) (hlk0 : l[0]? = some (i0 : Int)) (him0 : i0 < q.m) (t0 : Int) (hti0 : s.ty[i0]? = some t0) (h4 : (ot == 4) = true) (h0 : (t0 == 1) = true) :
  Calls Tryz.prog 103 #[.pointer (some ⟨q.P, 0, none⟩), .agg #[.int .i64 5, .int .i64 ln, .int .i64 n, .string (ofL x), .slice a m c]] w fun e w' => e = .returned (.tuple #[.int .i64 1, .int .i64 0]) ∧ Keeps (fun _ => False) w w' := by
 have HH := Lib.hid h
 clear h
 obtain ⟨X, hX⟩ : ∃ X, X = ofL x := ⟨_, rfl⟩
 have HXX := Lib.hid hX
 rw [← hX]
 clear hX
 go_enter Tryz.func103, Tryz.ntmps103
 go_upto_region 1 with fail
 obtain ⟨wa, hwa⟩ : ∃ w1, w1 = w.alloc (.cells #[.pointer (some ⟨q.P, 0, none⟩)] 86) := ⟨_, rfl⟩
 have ka := Keeps.one w (.cells #[.pointer (some ⟨q.P, 0, none⟩)] 86)
 have LC := Loc.new (w := w) (R := fun _ => False) (fun h => h) [.pointer (some ⟨q.P, 0, none⟩)] 86
 have e1 : wa.heap.size = w.heap.size + 1 := by rw [hwa]; simp
 replace LC : Loc wa (fun _ => False) w.heap.size [.pointer (some ⟨q.P, 0, none⟩)] := by rw [hwa]; exact LC
 rw [← hwa] at ka ⊢
 obtain ⟨w1, hw1⟩ : ∃ w1, w1 = wa.alloc (.cells #[.int .i64 5, .int .i64 ln, .int .i64 n, .string X, .slice a m c] 41) := ⟨_, rfl⟩
 have kb := Keeps.one wa (.cells #[.int .i64 5, .int .i64 ln, .int .i64 n, .string X, .slice a m c] 41)
 have LN : Loc w1 (fun _ => False) (w.heap.size + 1) [.int .i64 5, .int .i64 ln, .int .i64 n, .string X, .slice a m c] := by rw [hw1, ← e1]; exact Loc.new (fun h => h) [.int .i64 5, .int .i64 ln, .int .i64 n, .string X, .slice a m c] 41
 rw [← hw1] at kb ⊢
 generalize w.heap.size + 1 = PN at LN e1 ⊢
 generalize w.heap.size = PC at LC ⊢
 have LC := LC.keeps kb
 have K1 := Lib.hid (ka.trans kb (fun _ _ h => h))
 have c0 := LC.cells 0 _ rfl
 have b0 := LN.cells 0 _ rfl
 have b3 := LN.cells 3 _ rfl
 have b4 := LN.cells 4 _ rfl
 have HL := Lib.hid (And.intro LC LN)
 have FC : Hid (Calls Tryz.prog 46 #[.pointer (some ⟨q.P, 0, none⟩), .string X] w1 fun e w' => e = .returned (.tuple #[.agg #[.string SO, .int .i64 ot, .int .i64 os], .bool bk]) ∧ Keeps (fun _ => False) w1 w') := Lib.hid (by
  have hc := pfind_any (HH.out.keep K1.out) x hV
  rw [← HXX.out, hfv] at hc
  exact hc)
 have B0 : Hid (∀ w', Keeps (fun _ => False) w1 w' → Calls Tryz.prog 128 #[.int .i64 0, .pointer (some ⟨PC, 0, none⟩), .pointer (some ⟨PN, 0, none⟩)] w' fun e w'' => e = .returned (.int .i64 t0) ∧ Keeps (fun _ => False) w1 w'') := Lib.hid (fun w' k => by
  have hc := pbelow_any ((HH.out.keep K1.out).keep k) PC PN a m c ((HL.out.1.keeps k).cells 0 _ rfl) ((HL.out.2.keeps k).cells 4 _ rfl) l hl hr 0 i0 hlk0 him0 t0 hti0
  exact hc.mono (fun e w'' h => And.intro h.1 (k.trans h.2 (fun _ _ h => h))))
 generalize q.P = P at c0 FC LC HL ⊢
 clear hfv hV ka kb hwa hw1 e1 LC LN hlk0 him0 hti0 hl hr
 go_wp2_with fail
 refine FC.out.mono ?_
 rintro e w2 ⟨rfl, k2⟩
 go_upto_region 3 with fail
 obtain ⟨P7, hP7⟩ : ∃ X, X = w2.heap.size := ⟨_, rfl⟩
 obtain ⟨w3, hw3⟩ : ∃ w3, w3 = w2.alloc (.cells #[.string SO, .int .i64 ot, .int .i64 os] 46) := ⟨_, rfl⟩
 have kc := Keeps.one w2 (.cells #[.string SO, .int .i64 ot, .int .i64 os] 46)
 have L7 : Loc w3 (fun _ => False) P7 [.string SO, .int .i64 ot, .int .i64 os] := by rw [hw3, hP7]; exact Loc.new (fun h => h) [.string SO, .int .i64 ot, .int .i64 os] 46
 rw [← hP7]
 rw [← hw3] at kc ⊢
 have k3 := k2.trans kc (fun _ _ h => h)
 have K3 := Lib.hid k3
 have o0 := L7.cells 0 _ rfl
 have o1 := L7.cells 1 _ rfl
 have o2 := L7.cells 2 _ rfl
 replace c0 := (k3.cell (cell_ltk c0) (fun h => h)).trans c0
 replace b0 := (k3.cell (cell_ltk b0) (fun h => h)).trans b0
 replace b3 := (k3.cell (cell_ltk b3) (fun h => h)).trans b3
 replace b4 := (k3.cell (cell_ltk b4) (fun h => h)).trans b4
 clear FC k2 kc hw3 hP7 k3 L7
 go_wp2_with fail
 refine (B0.out _ K3.out).mono ?_
 rintro e w4 ⟨rfl, k4⟩
 clear B0
 go_wp2_with fail
 go_ret2
 exact ⟨by first | done | rfl, K1.out.trans k4 (fun _ _ h => h)⟩
set_option maxRecDepth 100000 in
set_option maxHeartbeats 16000000 in
theorem tells_index_no {w : World} {q : CkQ} {nd : List Nd} {fs : List Fnc} {w0 : World} {R : Nat → Prop} {s : CkS} (h : Ck w q nd fs w0 R s) (ln n : Int) (x : List UInt8) (a : Option Addr) (m c : Nat) (hV : s.V.length ≤ 1000) (SO : ByteArray) (ot os : Int) (bk : Bool) (hfv : findV s.V x = .tuple #[.agg #[.string SO, .int .i64 ot, .int .i64 os], .bool bk]) (l : List Int) (hl : l.length = m) (hr : RdI w0 a l) (i0 : Nat) (hlk0 : l[0]? = some (i0 : Int)) (him0 : i0 < q.m) (t0 : Int) (hti0 : s.ty[i0]? = some t0) (h4 : (ot == 4) = true) (h0 : (t0 == 1) = false) :
  Calls Tryz.prog 103 #[.pointer (some ⟨q.P, 0, none⟩), .agg #[.int .i64 5, .int .i64 ln, .int .i64 n, .string (ofL x), .slice a m c]] w fun e w' => e = .returned (.tuple #[.int .i64 0, .int .i64 42]) ∧ Keeps (fun _ => False) w w' := by
 have HH := Lib.hid h
 clear h
 obtain ⟨X, hX⟩ : ∃ X, X = ofL x := ⟨_, rfl⟩
 have HXX := Lib.hid hX
 rw [← hX]
 clear hX
 go_enter Tryz.func103, Tryz.ntmps103
 go_upto_region 1 with fail
 obtain ⟨wa, hwa⟩ : ∃ w1, w1 = w.alloc (.cells #[.pointer (some ⟨q.P, 0, none⟩)] 86) := ⟨_, rfl⟩
 have ka := Keeps.one w (.cells #[.pointer (some ⟨q.P, 0, none⟩)] 86)
 have LC := Loc.new (w := w) (R := fun _ => False) (fun h => h) [.pointer (some ⟨q.P, 0, none⟩)] 86
 have e1 : wa.heap.size = w.heap.size + 1 := by rw [hwa]; simp
 replace LC : Loc wa (fun _ => False) w.heap.size [.pointer (some ⟨q.P, 0, none⟩)] := by rw [hwa]; exact LC
 rw [← hwa] at ka ⊢
 obtain ⟨w1, hw1⟩ : ∃ w1, w1 = wa.alloc (.cells #[.int .i64 5, .int .i64 ln, .int .i64 n, .string X, .slice a m c] 41) := ⟨_, rfl⟩
 have kb := Keeps.one wa (.cells #[.int .i64 5, .int .i64 ln, .int .i64 n, .string X, .slice a m c] 41)
 have LN : Loc w1 (fun _ => False) (w.heap.size + 1) [.int .i64 5, .int .i64 ln, .int .i64 n, .string X, .slice a m c] := by rw [hw1, ← e1]; exact Loc.new (fun h => h) [.int .i64 5, .int .i64 ln, .int .i64 n, .string X, .slice a m c] 41
 rw [← hw1] at kb ⊢
 generalize w.heap.size + 1 = PN at LN e1 ⊢
 generalize w.heap.size = PC at LC ⊢
 have LC := LC.keeps kb
 have K1 := Lib.hid (ka.trans kb (fun _ _ h => h))
 have c0 := LC.cells 0 _ rfl
 have b0 := LN.cells 0 _ rfl
 have b3 := LN.cells 3 _ rfl
 have b4 := LN.cells 4 _ rfl
 have HL := Lib.hid (And.intro LC LN)
 have FC : Hid (Calls Tryz.prog 46 #[.pointer (some ⟨q.P, 0, none⟩), .string X] w1 fun e w' => e = .returned (.tuple #[.agg #[.string SO, .int .i64 ot, .int .i64 os], .bool bk]) ∧ Keeps (fun _ => False) w1 w') := Lib.hid (by
  have hc := pfind_any (HH.out.keep K1.out) x hV
  rw [← HXX.out, hfv] at hc
  exact hc)
 have B0 : Hid (∀ w', Keeps (fun _ => False) w1 w' → Calls Tryz.prog 128 #[.int .i64 0, .pointer (some ⟨PC, 0, none⟩), .pointer (some ⟨PN, 0, none⟩)] w' fun e w'' => e = .returned (.int .i64 t0) ∧ Keeps (fun _ => False) w1 w'') := Lib.hid (fun w' k => by
  have hc := pbelow_any ((HH.out.keep K1.out).keep k) PC PN a m c ((HL.out.1.keeps k).cells 0 _ rfl) ((HL.out.2.keeps k).cells 4 _ rfl) l hl hr 0 i0 hlk0 him0 t0 hti0
  exact hc.mono (fun e w'' h => And.intro h.1 (k.trans h.2 (fun _ _ h => h))))
 generalize q.P = P at c0 FC LC HL ⊢
 clear hfv hV ka kb hwa hw1 e1 LC LN hlk0 him0 hti0 hl hr
 go_wp2_with fail
 refine FC.out.mono ?_
 rintro e w2 ⟨rfl, k2⟩
 go_upto_region 3 with fail
 obtain ⟨P7, hP7⟩ : ∃ X, X = w2.heap.size := ⟨_, rfl⟩
 obtain ⟨w3, hw3⟩ : ∃ w3, w3 = w2.alloc (.cells #[.string SO, .int .i64 ot, .int .i64 os] 46) := ⟨_, rfl⟩
 have kc := Keeps.one w2 (.cells #[.string SO, .int .i64 ot, .int .i64 os] 46)
 have L7 : Loc w3 (fun _ => False) P7 [.string SO, .int .i64 ot, .int .i64 os] := by rw [hw3, hP7]; exact Loc.new (fun h => h) [.string SO, .int .i64 ot, .int .i64 os] 46
 rw [← hP7]
 rw [← hw3] at kc ⊢
 have k3 := k2.trans kc (fun _ _ h => h)
 have K3 := Lib.hid k3
 have o0 := L7.cells 0 _ rfl
 have o1 := L7.cells 1 _ rfl
 have o2 := L7.cells 2 _ rfl
 replace c0 := (k3.cell (cell_ltk c0) (fun h => h)).trans c0
 replace b0 := (k3.cell (cell_ltk b0) (fun h => h)).trans b0
 replace b3 := (k3.cell (cell_ltk b3) (fun h => h)).trans b3
 replace b4 := (k3.cell (cell_ltk b4) (fun h => h)).trans b4
 clear FC k2 kc hw3 hP7 k3 L7
 go_wp2_with fail
 refine (B0.out _ K3.out).mono ?_
 rintro e w4 ⟨rfl, k4⟩
 clear B0
 go_wp2_with fail
 go_ret2
 exact ⟨by first | done | rfl, K1.out.trans k4 (fun _ _ h => h)⟩
set_option maxRecDepth 100000 in
set_option maxHeartbeats 16000000 in
theorem tells_len_text {w : World} {q : CkQ} {nd : List Nd} {fs : List Fnc} {w0 : World} {R : Nat → Prop} {s : CkS} (h : Ck w q nd fs w0 R s) (ln n : Int) (x : List UInt8) (a : Option Addr) (m c : Nat) (hV : s.V.length ≤ 1000) (SO : ByteArray) (ot os : Int) (bk : Bool) (hfv : findV s.V x = .tuple #[.agg #[.string SO, .int .i64 ot, .int .i64 os], .bool bk]) (l : List Int) (hl : l.length = m) (hr : RdI w0 a l) (i0 : Nat) (hlk0 : l[0]? = some (i0 : Int)) (him0 : i0 < q.m) (t0 : Int) (hti0 : s.ty[i0]? = some t0) (h0 : (t0 == 3) = true) :
  Calls Tryz.prog 103 #[.pointer (some ⟨q.P, 0, none⟩), .agg #[.int .i64 6, .int .i64 ln, .int .i64 n, .string (ofL x), .slice a m c]] w fun e w' => e = .returned (.tuple #[.int .i64 1, .int .i64 0]) ∧ Keeps (fun _ => False) w w' := by
 have HH := Lib.hid h
 clear h
 obtain ⟨X, hX⟩ : ∃ X, X = ofL x := ⟨_, rfl⟩
 have HXX := Lib.hid hX
 rw [← hX]
 clear hX
 go_enter Tryz.func103, Tryz.ntmps103
 go_upto_region 1 with fail
 obtain ⟨wa, hwa⟩ : ∃ w1, w1 = w.alloc (.cells #[.pointer (some ⟨q.P, 0, none⟩)] 86) := ⟨_, rfl⟩
 have ka := Keeps.one w (.cells #[.pointer (some ⟨q.P, 0, none⟩)] 86)
 have LC := Loc.new (w := w) (R := fun _ => False) (fun h => h) [.pointer (some ⟨q.P, 0, none⟩)] 86
 have e1 : wa.heap.size = w.heap.size + 1 := by rw [hwa]; simp
 replace LC : Loc wa (fun _ => False) w.heap.size [.pointer (some ⟨q.P, 0, none⟩)] := by rw [hwa]; exact LC
 rw [← hwa] at ka ⊢
 obtain ⟨w1, hw1⟩ : ∃ w1, w1 = wa.alloc (.cells #[.int .i64 6, .int .i64 ln, .int .i64 n, .string X, .slice a m c] 41) := ⟨_, rfl⟩
 have kb := Keeps.one wa (.cells #[.int .i64 6, .int .i64 ln, .int .i64 n, .string X, .slice a m c] 41)
 have LN : Loc w1 (fun _ => False) (w.heap.size + 1) [.int .i64 6, .int .i64 ln, .int .i64 n, .string X, .slice a m c] := by rw [hw1, ← e1]; exact Loc.new (fun h => h) [.int .i64 6, .int .i64 ln, .int .i64 n, .string X, .slice a m c] 41
 rw [← hw1] at kb ⊢
 generalize w.heap.size + 1 = PN at LN e1 ⊢
 generalize w.heap.size = PC at LC ⊢
 have LC := LC.keeps kb
 have K1 := Lib.hid (ka.trans kb (fun _ _ h => h))
 have c0 := LC.cells 0 _ rfl
 have b0 := LN.cells 0 _ rfl
 have b3 := LN.cells 3 _ rfl
 have b4 := LN.cells 4 _ rfl
 have HL := Lib.hid (And.intro LC LN)
 have FC : Hid (Calls Tryz.prog 46 #[.pointer (some ⟨q.P, 0, none⟩), .string X] w1 fun e w' => e = .returned (.tuple #[.agg #[.string SO, .int .i64 ot, .int .i64 os], .bool bk]) ∧ Keeps (fun _ => False) w1 w') := Lib.hid (by
  have hc := pfind_any (HH.out.keep K1.out) x hV
  rw [← HXX.out, hfv] at hc
  exact hc)
 have B0 : Hid (∀ w', Keeps (fun _ => False) w1 w' → Calls Tryz.prog 128 #[.int .i64 0, .pointer (some ⟨PC, 0, none⟩), .pointer (some ⟨PN, 0, none⟩)] w' fun e w'' => e = .returned (.int .i64 t0) ∧ Keeps (fun _ => False) w1 w'') := Lib.hid (fun w' k => by
  have hc := pbelow_any ((HH.out.keep K1.out).keep k) PC PN a m c ((HL.out.1.keeps k).cells 0 _ rfl) ((HL.out.2.keeps k).cells 4 _ rfl) l hl hr 0 i0 hlk0 him0 t0 hti0
  exact hc.mono (fun e w'' h => And.intro h.1 (k.trans h.2 (fun _ _ h => h))))
 generalize q.P = P at c0 FC LC HL ⊢
 clear hfv hV ka kb hwa hw1 e1 LC LN hlk0 him0 hti0 hl hr
 go_wp2_with fail
 refine FC.out.mono ?_
 rintro e w2 ⟨rfl, k2⟩
 go_upto_region 3 with fail
 obtain ⟨P7, hP7⟩ : ∃ X, X = w2.heap.size := ⟨_, rfl⟩
 obtain ⟨w3, hw3⟩ : ∃ w3, w3 = w2.alloc (.cells #[.string SO, .int .i64 ot, .int .i64 os] 46) := ⟨_, rfl⟩
 have kc := Keeps.one w2 (.cells #[.string SO, .int .i64 ot, .int .i64 os] 46)
 have L7 : Loc w3 (fun _ => False) P7 [.string SO, .int .i64 ot, .int .i64 os] := by rw [hw3, hP7]; exact Loc.new (fun h => h) [.string SO, .int .i64 ot, .int .i64 os] 46
 rw [← hP7]
 rw [← hw3] at kc ⊢
 have k3 := k2.trans kc (fun _ _ h => h)
 have K3 := Lib.hid k3
 have o0 := L7.cells 0 _ rfl
 have o1 := L7.cells 1 _ rfl
 have o2 := L7.cells 2 _ rfl
 replace c0 := (k3.cell (cell_ltk c0) (fun h => h)).trans c0
 replace b0 := (k3.cell (cell_ltk b0) (fun h => h)).trans b0
 replace b3 := (k3.cell (cell_ltk b3) (fun h => h)).trans b3
 replace b4 := (k3.cell (cell_ltk b4) (fun h => h)).trans b4
 clear FC k2 kc hw3 hP7 k3 L7
 go_wp2_with fail
 refine (B0.out _ K3.out).mono ?_
 rintro e w4 ⟨rfl, k4⟩
 clear B0
 go_wp2_with fail
 go_ret2
 exact ⟨by first | done | rfl, K1.out.trans k4 (fun _ _ h => h)⟩
set_option maxRecDepth 100000 in
set_option maxHeartbeats 16000000 in
theorem tells_len_list {w : World} {q : CkQ} {nd : List Nd} {fs : List Fnc} {w0 : World} {R : Nat → Prop} {s : CkS} (h : Ck w q nd fs w0 R s) (ln n : Int) (x : List UInt8) (a : Option Addr) (m c : Nat) (hV : s.V.length ≤ 1000) (SO : ByteArray) (ot os : Int) (bk : Bool) (hfv : findV s.V x = .tuple #[.agg #[.string SO, .int .i64 ot, .int .i64 os], .bool bk]) (l : List Int) (hl : l.length = m) (hr : RdI w0 a l) (i0 : Nat) (hlk0 : l[0]? = some (i0 : Int)) (him0 : i0 < q.m) (t0 : Int) (hti0 : s.ty[i0]? = some t0) (h0 : (t0 == 3) = false) (h1 : (t0 == 4) = true) :
  Calls Tryz.prog 103 #[.pointer (some ⟨q.P, 0, none⟩), .agg #[.int .i64 6, .int .i64 ln, .int .i64 n, .string (ofL x), .slice a m c]] w fun e w' => e = .returned (.tuple #[.int .i64 1, .int .i64 0]) ∧ Keeps (fun _ => False) w w' := by
 have HH := Lib.hid h
 clear h
 obtain ⟨X, hX⟩ : ∃ X, X = ofL x := ⟨_, rfl⟩
 have HXX := Lib.hid hX
 rw [← hX]
 clear hX
 go_enter Tryz.func103, Tryz.ntmps103
 go_upto_region 1 with fail
 obtain ⟨wa, hwa⟩ : ∃ w1, w1 = w.alloc (.cells #[.pointer (some ⟨q.P, 0, none⟩)] 86) := ⟨_, rfl⟩
 have ka := Keeps.one w (.cells #[.pointer (some ⟨q.P, 0, none⟩)] 86)
 have LC := Loc.new (w := w) (R := fun _ => False) (fun h => h) [.pointer (some ⟨q.P, 0, none⟩)] 86
 have e1 : wa.heap.size = w.heap.size + 1 := by rw [hwa]; simp
 replace LC : Loc wa (fun _ => False) w.heap.size [.pointer (some ⟨q.P, 0, none⟩)] := by rw [hwa]; exact LC
 rw [← hwa] at ka ⊢
 obtain ⟨w1, hw1⟩ : ∃ w1, w1 = wa.alloc (.cells #[.int .i64 6, .int .i64 ln, .int .i64 n, .string X, .slice a m c] 41) := ⟨_, rfl⟩
 have kb := Keeps.one wa (.cells #[.int .i64 6, .int .i64 ln, .int .i64 n, .string X, .slice a m c] 41)
 have LN : Loc w1 (fun _ => False) (w.heap.size + 1) [.int .i64 6, .int .i64 ln, .int .i64 n, .string X, .slice a m c] := by rw [hw1, ← e1]; exact Loc.new (fun h => h) [.int .i64 6, .int .i64 ln, .int .i64 n, .string X, .slice a m c] 41
 rw [← hw1] at kb ⊢
 generalize w.heap.size + 1 = PN at LN e1 ⊢
 generalize w.heap.size = PC at LC ⊢
 have LC := LC.keeps kb
 have K1 := Lib.hid (ka.trans kb (fun _ _ h => h))
 have c0 := LC.cells 0 _ rfl
 have b0 := LN.cells 0 _ rfl
 have b3 := LN.cells 3 _ rfl
 have b4 := LN.cells 4 _ rfl
 have HL := Lib.hid (And.intro LC LN)
 have FC : Hid (Calls Tryz.prog 46 #[.pointer (some ⟨q.P, 0, none⟩), .string X] w1 fun e w' => e = .returned (.tuple #[.agg #[.string SO, .int .i64 ot, .int .i64 os], .bool bk]) ∧ Keeps (fun _ => False) w1 w') := Lib.hid (by
  have hc := pfind_any (HH.out.keep K1.out) x hV
  rw [← HXX.out, hfv] at hc
  exact hc)
 have B0 : Hid (∀ w', Keeps (fun _ => False) w1 w' → Calls Tryz.prog 128 #[.int .i64 0, .pointer (some ⟨PC, 0, none⟩), .pointer (some ⟨PN, 0, none⟩)] w' fun e w'' => e = .returned (.int .i64 t0) ∧ Keeps (fun _ => False) w1 w'') := Lib.hid (fun w' k => by
  have hc := pbelow_any ((HH.out.keep K1.out).keep k) PC PN a m c ((HL.out.1.keeps k).cells 0 _ rfl) ((HL.out.2.keeps k).cells 4 _ rfl) l hl hr 0 i0 hlk0 him0 t0 hti0
  exact hc.mono (fun e w'' h => And.intro h.1 (k.trans h.2 (fun _ _ h => h))))
 generalize q.P = P at c0 FC LC HL ⊢
 clear hfv hV ka kb hwa hw1 e1 LC LN hlk0 him0 hti0 hl hr
 go_wp2_with fail
 refine FC.out.mono ?_
 rintro e w2 ⟨rfl, k2⟩
 go_upto_region 3 with fail
 obtain ⟨P7, hP7⟩ : ∃ X, X = w2.heap.size := ⟨_, rfl⟩
 obtain ⟨w3, hw3⟩ : ∃ w3, w3 = w2.alloc (.cells #[.string SO, .int .i64 ot, .int .i64 os] 46) := ⟨_, rfl⟩
 have kc := Keeps.one w2 (.cells #[.string SO, .int .i64 ot, .int .i64 os] 46)
 have L7 : Loc w3 (fun _ => False) P7 [.string SO, .int .i64 ot, .int .i64 os] := by rw [hw3, hP7]; exact Loc.new (fun h => h) [.string SO, .int .i64 ot, .int .i64 os] 46
 rw [← hP7]
 rw [← hw3] at kc ⊢
 have k3 := k2.trans kc (fun _ _ h => h)
 have K3 := Lib.hid k3
 have o0 := L7.cells 0 _ rfl
 have o1 := L7.cells 1 _ rfl
 have o2 := L7.cells 2 _ rfl
 replace c0 := (k3.cell (cell_ltk c0) (fun h => h)).trans c0
 replace b0 := (k3.cell (cell_ltk b0) (fun h => h)).trans b0
 replace b3 := (k3.cell (cell_ltk b3) (fun h => h)).trans b3
 replace b4 := (k3.cell (cell_ltk b4) (fun h => h)).trans b4
 clear FC k2 kc hw3 hP7 k3 L7
 go_wp2_with fail
 refine (B0.out _ K3.out).mono ?_
 rintro e w4 ⟨rfl, k4⟩
 go_wp2_with fail
 refine (B0.out _ k4).mono ?_
 rintro e w5 ⟨rfl, k5⟩
 clear B0
 go_wp2_with fail
 go_ret2
 exact ⟨by first | done | rfl, K1.out.trans k5 (fun _ _ h => h)⟩
set_option maxRecDepth 100000 in
set_option maxHeartbeats 16000000 in
theorem tells_len_no {w : World} {q : CkQ} {nd : List Nd} {fs : List Fnc} {w0 : World} {R : Nat → Prop} {s : CkS} (h : Ck w q nd fs w0 R s) (ln n : Int) (x : List UInt8) (a : Option Addr) (m c : Nat) (hV : s.V.length ≤ 1000) (SO : ByteArray) (ot os : Int) (bk : Bool) (hfv : findV s.V x = .tuple #[.agg #[.string SO, .int .i64 ot, .int .i64 os], .bool bk]) (l : List Int) (hl : l.length = m) (hr : RdI w0 a l) (i0 : Nat) (hlk0 : l[0]? = some (i0 : Int)) (him0 : i0 < q.m) (t0 : Int) (hti0 : s.ty[i0]? = some t0) (h0 : (t0 == 3) = false) (h1 : (t0 == 4) = false) :
  Calls Tryz.prog 103 #[.pointer (some ⟨q.P, 0, none⟩), .agg #[.int .i64 6, .int .i64 ln, .int .i64 n, .string (ofL x), .slice a m c]] w fun e w' => e = .returned (.tuple #[.int .i64 0, .int .i64 42]) ∧ Keeps (fun _ => False) w w' := by
 have HH := Lib.hid h
 clear h
 obtain ⟨X, hX⟩ : ∃ X, X = ofL x := ⟨_, rfl⟩
 have HXX := Lib.hid hX
 rw [← hX]
 clear hX
 go_enter Tryz.func103, Tryz.ntmps103
 go_upto_region 1 with fail
 obtain ⟨wa, hwa⟩ : ∃ w1, w1 = w.alloc (.cells #[.pointer (some ⟨q.P, 0, none⟩)] 86) := ⟨_, rfl⟩
 have ka := Keeps.one w (.cells #[.pointer (some ⟨q.P, 0, none⟩)] 86)
 have LC := Loc.new (w := w) (R := fun _ => False) (fun h => h) [.pointer (some ⟨q.P, 0, none⟩)] 86
 have e1 : wa.heap.size = w.heap.size + 1 := by rw [hwa]; simp
 replace LC : Loc wa (fun _ => False) w.heap.size [.pointer (some ⟨q.P, 0, none⟩)] := by rw [hwa]; exact LC
 rw [← hwa] at ka ⊢
 obtain ⟨w1, hw1⟩ : ∃ w1, w1 = wa.alloc (.cells #[.int .i64 6, .int .i64 ln, .int .i64 n, .string X, .slice a m c] 41) := ⟨_, rfl⟩
 have kb := Keeps.one wa (.cells #[.int .i64 6, .int .i64 ln, .int .i64 n, .string X, .slice a m c] 41)
 have LN : Loc w1 (fun _ => False) (w.heap.size + 1) [.int .i64 6, .int .i64 ln, .int .i64 n, .string X, .slice a m c] := by rw [hw1, ← e1]; exact Loc.new (fun h => h) [.int .i64 6, .int .i64 ln, .int .i64 n, .string X, .slice a m c] 41
 rw [← hw1] at kb ⊢
 generalize w.heap.size + 1 = PN at LN e1 ⊢
 generalize w.heap.size = PC at LC ⊢
 have LC := LC.keeps kb
 have K1 := Lib.hid (ka.trans kb (fun _ _ h => h))
 have c0 := LC.cells 0 _ rfl
 have b0 := LN.cells 0 _ rfl
 have b3 := LN.cells 3 _ rfl
 have b4 := LN.cells 4 _ rfl
 have HL := Lib.hid (And.intro LC LN)
 have FC : Hid (Calls Tryz.prog 46 #[.pointer (some ⟨q.P, 0, none⟩), .string X] w1 fun e w' => e = .returned (.tuple #[.agg #[.string SO, .int .i64 ot, .int .i64 os], .bool bk]) ∧ Keeps (fun _ => False) w1 w') := Lib.hid (by
  have hc := pfind_any (HH.out.keep K1.out) x hV
  rw [← HXX.out, hfv] at hc
  exact hc)
 have B0 : Hid (∀ w', Keeps (fun _ => False) w1 w' → Calls Tryz.prog 128 #[.int .i64 0, .pointer (some ⟨PC, 0, none⟩), .pointer (some ⟨PN, 0, none⟩)] w' fun e w'' => e = .returned (.int .i64 t0) ∧ Keeps (fun _ => False) w1 w'') := Lib.hid (fun w' k => by
  have hc := pbelow_any ((HH.out.keep K1.out).keep k) PC PN a m c ((HL.out.1.keeps k).cells 0 _ rfl) ((HL.out.2.keeps k).cells 4 _ rfl) l hl hr 0 i0 hlk0 him0 t0 hti0
  exact hc.mono (fun e w'' h => And.intro h.1 (k.trans h.2 (fun _ _ h => h))))
 generalize q.P = P at c0 FC LC HL ⊢
 clear hfv hV ka kb hwa hw1 e1 LC LN hlk0 him0 hti0 hl hr
 go_wp2_with fail
 refine FC.out.mono ?_
 rintro e w2 ⟨rfl, k2⟩
 go_upto_region 3 with fail
 obtain ⟨P7, hP7⟩ : ∃ X, X = w2.heap.size := ⟨_, rfl⟩
 obtain ⟨w3, hw3⟩ : ∃ w3, w3 = w2.alloc (.cells #[.string SO, .int .i64 ot, .int .i64 os] 46) := ⟨_, rfl⟩
 have kc := Keeps.one w2 (.cells #[.string SO, .int .i64 ot, .int .i64 os] 46)
 have L7 : Loc w3 (fun _ => False) P7 [.string SO, .int .i64 ot, .int .i64 os] := by rw [hw3, hP7]; exact Loc.new (fun h => h) [.string SO, .int .i64 ot, .int .i64 os] 46
 rw [← hP7]
 rw [← hw3] at kc ⊢
 have k3 := k2.trans kc (fun _ _ h => h)
 have K3 := Lib.hid k3
 have o0 := L7.cells 0 _ rfl
 have o1 := L7.cells 1 _ rfl
 have o2 := L7.cells 2 _ rfl
 replace c0 := (k3.cell (cell_ltk c0) (fun h => h)).trans c0
 replace b0 := (k3.cell (cell_ltk b0) (fun h => h)).trans b0
 replace b3 := (k3.cell (cell_ltk b3) (fun h => h)).trans b3
 replace b4 := (k3.cell (cell_ltk b4) (fun h => h)).trans b4
 clear FC k2 kc hw3 hP7 k3 L7
 go_wp2_with fail
 refine (B0.out _ K3.out).mono ?_
 rintro e w4 ⟨rfl, k4⟩
 go_wp2_with fail
 refine (B0.out _ k4).mono ?_
 rintro e w5 ⟨rfl, k5⟩
 clear B0
 go_wp2_with fail
 go_ret2
 exact ⟨by first | done | rfl, K1.out.trans k5 (fun _ _ h => h)⟩
set_option maxRecDepth 100000 in
set_option maxHeartbeats 16000000 in
theorem tells_bin_ok {w : World} {q : CkQ} {nd : List Nd} {fs : List Fnc} {w0 : World} {R : Nat → Prop} {s : CkS} (h : Ck w q nd fs w0 R s) (ln n : Int) (x : List UInt8) (a : Option Addr) (m c : Nat) (hV : s.V.length ≤ 1000) (SO : ByteArray) (ot os : Int) (bk : Bool) (hfv : findV s.V x = .tuple #[.agg #[.string SO, .int .i64 ot, .int .i64 os], .bool bk]) (l : List Int) (hl : l.length = m) (hr : RdI w0 a l) (i0 : Nat) (hlk0 : l[0]? = some (i0 : Int)) (him0 : i0 < q.m) (t0 : Int) (hti0 : s.ty[i0]? = some t0) (i1 : Nat) (hlk1 : l[1]? = some (i1 : Int)) (him1 : i1 < q.m) (t1 : Int) (hti1 : s.ty[i1]? = some t1) (hx : x ∈ signs11) (st : Int) (hs : signP x t0 t1 = (st, true)) :
  Calls Tryz.prog 103 #[.pointer (some ⟨q.P, 0, none⟩), .agg #[.int .i64 9, .int .i64 ln, .int .i64 n, .string (ofL x), .slice a m c]] w fun e w' => e = .returned (.tuple #[.int .i64 st, .int .i64 0]) ∧ Keeps (fun _ => False) w w' := by
 have HH := Lib.hid h
 clear h
 obtain ⟨X, hX⟩ : ∃ X, X = ofL x := ⟨_, rfl⟩
 have HXX := Lib.hid hX
 rw [← hX]
 clear hX
 go_enter Tryz.func103, Tryz.ntmps103
 go_upto_region 1 with fail
 obtain ⟨wa, hwa⟩ : ∃ w1, w1 = w.alloc (.cells #[.pointer (some ⟨q.P, 0, none⟩)] 86) := ⟨_, rfl⟩
 have ka := Keeps.one w (.cells #[.pointer (some ⟨q.P, 0, none⟩)] 86)
 have LC := Loc.new (w := w) (R := fun _ => False) (fun h => h) [.pointer (some ⟨q.P, 0, none⟩)] 86
 have e1 : wa.heap.size = w.heap.size + 1 := by rw [hwa]; simp
 replace LC : Loc wa (fun _ => False) w.heap.size [.pointer (some ⟨q.P, 0, none⟩)] := by rw [hwa]; exact LC
 rw [← hwa] at ka ⊢
 obtain ⟨w1, hw1⟩ : ∃ w1, w1 = wa.alloc (.cells #[.int .i64 9, .int .i64 ln, .int .i64 n, .string X, .slice a m c] 41) := ⟨_, rfl⟩
 have kb := Keeps.one wa (.cells #[.int .i64 9, .int .i64 ln, .int .i64 n, .string X, .slice a m c] 41)
 have LN : Loc w1 (fun _ => False) (w.heap.size + 1) [.int .i64 9, .int .i64 ln, .int .i64 n, .string X, .slice a m c] := by rw [hw1, ← e1]; exact Loc.new (fun h => h) [.int .i64 9, .int .i64 ln, .int .i64 n, .string X, .slice a m c] 41
 rw [← hw1] at kb ⊢
 generalize w.heap.size + 1 = PN at LN e1 ⊢
 generalize w.heap.size = PC at LC ⊢
 have LC := LC.keeps kb
 have K1 := Lib.hid (ka.trans kb (fun _ _ h => h))
 have c0 := LC.cells 0 _ rfl
 have b0 := LN.cells 0 _ rfl
 have b3 := LN.cells 3 _ rfl
 have b4 := LN.cells 4 _ rfl
 have HL := Lib.hid (And.intro LC LN)
 have FC : Hid (Calls Tryz.prog 46 #[.pointer (some ⟨q.P, 0, none⟩), .string X] w1 fun e w' => e = .returned (.tuple #[.agg #[.string SO, .int .i64 ot, .int .i64 os], .bool bk]) ∧ Keeps (fun _ => False) w1 w') := Lib.hid (by
  have hc := pfind_any (HH.out.keep K1.out) x hV
  rw [← HXX.out, hfv] at hc
  exact hc)
 have B0 : Hid (∀ w', Keeps (fun _ => False) w1 w' → Calls Tryz.prog 128 #[.int .i64 0, .pointer (some ⟨PC, 0, none⟩), .pointer (some ⟨PN, 0, none⟩)] w' fun e w'' => e = .returned (.int .i64 t0) ∧ Keeps (fun _ => False) w1 w'') := Lib.hid (fun w' k => by
  have hc := pbelow_any ((HH.out.keep K1.out).keep k) PC PN a m c ((HL.out.1.keeps k).cells 0 _ rfl) ((HL.out.2.keeps k).cells 4 _ rfl) l hl hr 0 i0 hlk0 him0 t0 hti0
  exact hc.mono (fun e w'' h => And.intro h.1 (k.trans h.2 (fun _ _ h => h))))
 have B1 : Hid (∀ w', Keeps (fun _ => False) w1 w' → Calls Tryz.prog 128 #[.int .i64 1, .pointer (some ⟨PC, 0, none⟩), .pointer (some ⟨PN, 0, none⟩)] w' fun e w'' => e = .returned (.int .i64 t1) ∧ Keeps (fun _ => False) w1 w'') := Lib.hid (fun w' k => by
  have hc := pbelow_any ((HH.out.keep K1.out).keep k) PC PN a m c ((HL.out.1.keeps k).cells 0 _ rfl) ((HL.out.2.keeps k).cells 4 _ rfl) l hl hr 1 i1 hlk1 him1 t1 hti1
  exact hc.mono (fun e w'' h => And.intro h.1 (k.trans h.2 (fun _ _ h => h))))
 have SG : Hid (∀ w', Keeps (fun _ => False) w1 w' → Calls Tryz.prog 129 #[.string X, .int .i64 t0, .int .i64 t1] w' fun e w'' => e = .returned (.tuple #[.int .i64 st, .bool true]) ∧ Keeps (fun _ => False) w1 w'') := Lib.hid (fun w' k => by
  have hc := psign_any x hx t0 t1 w'
  rw [← HXX.out, hs] at hc
  exact hc.mono (fun e w'' h => And.intro h.1 (k.trans h.2 (fun _ _ h => h))))
 clear hx hs
 generalize q.P = P at c0 FC LC HL ⊢
 clear hfv hV ka kb hwa hw1 e1 LC LN hlk0 him0 hti0 hlk1 him1 hti1 hl hr
 go_wp2_with fail
 refine FC.out.mono ?_
 rintro e w2 ⟨rfl, k2⟩
 go_upto_region 3 with fail
 obtain ⟨P7, hP7⟩ : ∃ X, X = w2.heap.size := ⟨_, rfl⟩
 obtain ⟨w3, hw3⟩ : ∃ w3, w3 = w2.alloc (.cells #[.string SO, .int .i64 ot, .int .i64 os] 46) := ⟨_, rfl⟩
 have kc := Keeps.one w2 (.cells #[.string SO, .int .i64 ot, .int .i64 os] 46)
 have L7 : Loc w3 (fun _ => False) P7 [.string SO, .int .i64 ot, .int .i64 os] := by rw [hw3, hP7]; exact Loc.new (fun h => h) [.string SO, .int .i64 ot, .int .i64 os] 46
 rw [← hP7]
 rw [← hw3] at kc ⊢
 have k3 := k2.trans kc (fun _ _ h => h)
 have K3 := Lib.hid k3
 have o0 := L7.cells 0 _ rfl
 have o1 := L7.cells 1 _ rfl
 have o2 := L7.cells 2 _ rfl
 replace c0 := (k3.cell (cell_ltk c0) (fun h => h)).trans c0
 replace b0 := (k3.cell (cell_ltk b0) (fun h => h)).trans b0
 replace b3 := (k3.cell (cell_ltk b3) (fun h => h)).trans b3
 replace b4 := (k3.cell (cell_ltk b4) (fun h => h)).trans b4
 clear FC k2 kc hw3 hP7 k3 L7
 have SK : Hid (∀ w', Keeps (fun _ => False) w1 w' → (w'.cell? ⟨PN, 3, none⟩ = some (.string X)) ∧ Keeps (fun _ => False) w1 w') := Lib.hid (fun w' q => ⟨(q.cell HL.out.2.lt (fun h => h)).trans (HL.out.2.cells 3 _ rfl), q⟩)
 go_upto_region 24 with fail
 clear o0 o1 o2 b3 b4 c0 b0
 go_region_held3 (fun w' => (w'.cell? ⟨PN, 3, none⟩ = some (.string X)) ∧ Keeps (fun _ => False) w1 w') (first | with_reducible exact SK.out _ K3.out | with_reducible exact SK.out _ (by assumption) | with_reducible exact SK.out _ (Keeps.drew K3.out) | with_reducible exact SK.out _ (Keeps.drew (by assumption))) (first | (go_at_call 128; with_reducible refine (B0.out _ (by first | assumption | exact Keeps.drew K3.out | exact Keeps.drew (by assumption))).mono ?_; rintro e w4 ⟨rfl, k4⟩) | (go_at_call 128; with_reducible refine (B1.out _ (by first | assumption | exact Keeps.drew K3.out | exact Keeps.drew (by assumption))).mono ?_; rintro e w5 ⟨rfl, k5⟩) | (go_at_call 129; with_reducible refine (SG.out _ (by first | assumption | exact Keeps.drew K3.out | exact Keeps.drew (by assumption))).mono ?_; rintro e w6 ⟨rfl, k6⟩))
 all_goals go_wp2_with fail
 all_goals go_ret2
 all_goals exact ⟨by first | done | rfl, K1.out.trans (by first | assumption | exact Keeps.drew (by assumption)) (fun _ _ h => h)⟩
set_option maxRecDepth 100000 in
set_option maxHeartbeats 16000000 in
theorem tells_bin_no {w : World} {q : CkQ} {nd : List Nd} {fs : List Fnc} {w0 : World} {R : Nat → Prop} {s : CkS} (h : Ck w q nd fs w0 R s) (ln n : Int) (x : List UInt8) (a : Option Addr) (m c : Nat) (hV : s.V.length ≤ 1000) (SO : ByteArray) (ot os : Int) (bk : Bool) (hfv : findV s.V x = .tuple #[.agg #[.string SO, .int .i64 ot, .int .i64 os], .bool bk]) (l : List Int) (hl : l.length = m) (hr : RdI w0 a l) (i0 : Nat) (hlk0 : l[0]? = some (i0 : Int)) (him0 : i0 < q.m) (t0 : Int) (hti0 : s.ty[i0]? = some t0) (i1 : Nat) (hlk1 : l[1]? = some (i1 : Int)) (him1 : i1 < q.m) (t1 : Int) (hti1 : s.ty[i1]? = some t1) (hx : x ∈ signs11) (st : Int) (hs : signP x t0 t1 = (st, false)) :
  Calls Tryz.prog 103 #[.pointer (some ⟨q.P, 0, none⟩), .agg #[.int .i64 9, .int .i64 ln, .int .i64 n, .string (ofL x), .slice a m c]] w fun e w' => e = .returned (.tuple #[.int .i64 0, .int .i64 42]) ∧ Keeps (fun _ => False) w w' := by
 have HH := Lib.hid h
 clear h
 obtain ⟨X, hX⟩ : ∃ X, X = ofL x := ⟨_, rfl⟩
 have HXX := Lib.hid hX
 rw [← hX]
 clear hX
 go_enter Tryz.func103, Tryz.ntmps103
 go_upto_region 1 with fail
 obtain ⟨wa, hwa⟩ : ∃ w1, w1 = w.alloc (.cells #[.pointer (some ⟨q.P, 0, none⟩)] 86) := ⟨_, rfl⟩
 have ka := Keeps.one w (.cells #[.pointer (some ⟨q.P, 0, none⟩)] 86)
 have LC := Loc.new (w := w) (R := fun _ => False) (fun h => h) [.pointer (some ⟨q.P, 0, none⟩)] 86
 have e1 : wa.heap.size = w.heap.size + 1 := by rw [hwa]; simp
 replace LC : Loc wa (fun _ => False) w.heap.size [.pointer (some ⟨q.P, 0, none⟩)] := by rw [hwa]; exact LC
 rw [← hwa] at ka ⊢
 obtain ⟨w1, hw1⟩ : ∃ w1, w1 = wa.alloc (.cells #[.int .i64 9, .int .i64 ln, .int .i64 n, .string X, .slice a m c] 41) := ⟨_, rfl⟩
 have kb := Keeps.one wa (.cells #[.int .i64 9, .int .i64 ln, .int .i64 n, .string X, .slice a m c] 41)
 have LN : Loc w1 (fun _ => False) (w.heap.size + 1) [.int .i64 9, .int .i64 ln, .int .i64 n, .string X, .slice a m c] := by rw [hw1, ← e1]; exact Loc.new (fun h => h) [.int .i64 9, .int .i64 ln, .int .i64 n, .string X, .slice a m c] 41
 rw [← hw1] at kb ⊢
 generalize w.heap.size + 1 = PN at LN e1 ⊢
 generalize w.heap.size = PC at LC ⊢
 have LC := LC.keeps kb
 have K1 := Lib.hid (ka.trans kb (fun _ _ h => h))
 have c0 := LC.cells 0 _ rfl
 have b0 := LN.cells 0 _ rfl
 have b3 := LN.cells 3 _ rfl
 have b4 := LN.cells 4 _ rfl
 have HL := Lib.hid (And.intro LC LN)
 have FC : Hid (Calls Tryz.prog 46 #[.pointer (some ⟨q.P, 0, none⟩), .string X] w1 fun e w' => e = .returned (.tuple #[.agg #[.string SO, .int .i64 ot, .int .i64 os], .bool bk]) ∧ Keeps (fun _ => False) w1 w') := Lib.hid (by
  have hc := pfind_any (HH.out.keep K1.out) x hV
  rw [← HXX.out, hfv] at hc
  exact hc)
 have B0 : Hid (∀ w', Keeps (fun _ => False) w1 w' → Calls Tryz.prog 128 #[.int .i64 0, .pointer (some ⟨PC, 0, none⟩), .pointer (some ⟨PN, 0, none⟩)] w' fun e w'' => e = .returned (.int .i64 t0) ∧ Keeps (fun _ => False) w1 w'') := Lib.hid (fun w' k => by
  have hc := pbelow_any ((HH.out.keep K1.out).keep k) PC PN a m c ((HL.out.1.keeps k).cells 0 _ rfl) ((HL.out.2.keeps k).cells 4 _ rfl) l hl hr 0 i0 hlk0 him0 t0 hti0
  exact hc.mono (fun e w'' h => And.intro h.1 (k.trans h.2 (fun _ _ h => h))))
 have B1 : Hid (∀ w', Keeps (fun _ => False) w1 w' → Calls Tryz.prog 128 #[.int .i64 1, .pointer (some ⟨PC, 0, none⟩), .pointer (some ⟨PN, 0, none⟩)] w' fun e w'' => e = .returned (.int .i64 t1) ∧ Keeps (fun _ => False) w1 w'') := Lib.hid (fun w' k => by
  have hc := pbelow_any ((HH.out.keep K1.out).keep k) PC PN a m c ((HL.out.1.keeps k).cells 0 _ rfl) ((HL.out.2.keeps k).cells 4 _ rfl) l hl hr 1 i1 hlk1 him1 t1 hti1
  exact hc.mono (fun e w'' h => And.intro h.1 (k.trans h.2 (fun _ _ h => h))))
 have SG : Hid (∀ w', Keeps (fun _ => False) w1 w' → Calls Tryz.prog 129 #[.string X, .int .i64 t0, .int .i64 t1] w' fun e w'' => e = .returned (.tuple #[.int .i64 st, .bool false]) ∧ Keeps (fun _ => False) w1 w'') := Lib.hid (fun w' k => by
  have hc := psign_any x hx t0 t1 w'
  rw [← HXX.out, hs] at hc
  exact hc.mono (fun e w'' h => And.intro h.1 (k.trans h.2 (fun _ _ h => h))))
 clear hx hs
 generalize q.P = P at c0 FC LC HL ⊢
 clear hfv hV ka kb hwa hw1 e1 LC LN hlk0 him0 hti0 hlk1 him1 hti1 hl hr
 go_wp2_with fail
 refine FC.out.mono ?_
 rintro e w2 ⟨rfl, k2⟩
 go_upto_region 3 with fail
 obtain ⟨P7, hP7⟩ : ∃ X, X = w2.heap.size := ⟨_, rfl⟩
 obtain ⟨w3, hw3⟩ : ∃ w3, w3 = w2.alloc (.cells #[.string SO, .int .i64 ot, .int .i64 os] 46) := ⟨_, rfl⟩
 have kc := Keeps.one w2 (.cells #[.string SO, .int .i64 ot, .int .i64 os] 46)
 have L7 : Loc w3 (fun _ => False) P7 [.string SO, .int .i64 ot, .int .i64 os] := by rw [hw3, hP7]; exact Loc.new (fun h => h) [.string SO, .int .i64 ot, .int .i64 os] 46
 rw [← hP7]
 rw [← hw3] at kc ⊢
 have k3 := k2.trans kc (fun _ _ h => h)
 have K3 := Lib.hid k3
 have o0 := L7.cells 0 _ rfl
 have o1 := L7.cells 1 _ rfl
 have o2 := L7.cells 2 _ rfl
 replace c0 := (k3.cell (cell_ltk c0) (fun h => h)).trans c0
 replace b0 := (k3.cell (cell_ltk b0) (fun h => h)).trans b0
 replace b3 := (k3.cell (cell_ltk b3) (fun h => h)).trans b3
 replace b4 := (k3.cell (cell_ltk b4) (fun h => h)).trans b4
 clear FC k2 kc hw3 hP7 k3 L7
 have SK : Hid (∀ w', Keeps (fun _ => False) w1 w' → (w'.cell? ⟨PN, 3, none⟩ = some (.string X)) ∧ Keeps (fun _ => False) w1 w') := Lib.hid (fun w' q => ⟨(q.cell HL.out.2.lt (fun h => h)).trans (HL.out.2.cells 3 _ rfl), q⟩)
 go_upto_region 24 with fail
 clear o0 o1 o2 b3 b4 c0 b0
 go_region_held3 (fun w' => (w'.cell? ⟨PN, 3, none⟩ = some (.string X)) ∧ Keeps (fun _ => False) w1 w') (first | with_reducible exact SK.out _ K3.out | with_reducible exact SK.out _ (by assumption) | with_reducible exact SK.out _ (Keeps.drew K3.out) | with_reducible exact SK.out _ (Keeps.drew (by assumption))) (first | (go_at_call 128; with_reducible refine (B0.out _ (by first | assumption | exact Keeps.drew K3.out | exact Keeps.drew (by assumption))).mono ?_; rintro e w4 ⟨rfl, k4⟩) | (go_at_call 128; with_reducible refine (B1.out _ (by first | assumption | exact Keeps.drew K3.out | exact Keeps.drew (by assumption))).mono ?_; rintro e w5 ⟨rfl, k5⟩) | (go_at_call 129; with_reducible refine (SG.out _ (by first | assumption | exact Keeps.drew K3.out | exact Keeps.drew (by assumption))).mono ?_; rintro e w6 ⟨rfl, k6⟩))
 all_goals go_wp2_with fail
 all_goals go_ret2
 all_goals exact ⟨by first | done | rfl, K1.out.trans (by first | assumption | exact Keeps.drew (by assumption)) (fun _ _ h => h)⟩
set_option maxRecDepth 100000 in
set_option maxHeartbeats 16000000 in
theorem tells_call {w : World} {q : CkQ} {nd : List Nd} {fs : List Fnc} {w0 : World} {R : Nat → Prop} {s : CkS} (h : Ck w q nd fs w0 R s) (ln n : Int) (x : List UInt8) (a : Option Addr) (m c : Nat) (hV : s.V.length ≤ 1000) (SO : ByteArray) (ot os : Int) (bk : Bool) (hfv : findV s.V x = .tuple #[.agg #[.string SO, .int .i64 ot, .int .i64 os], .bool bk])  (hk6 : fs.length ≤ 1000) (F : Fnc) (hv : lookF fs x = some F) (hp6 : F.ps.length ≤ 1000) (l : List Int) (hl : l.length = m) (hm6 : m ≤ 1000000) (hr : RdI w0 a l) (ts : List Int) (hts : ts.length = m) (hb : ∀ k, k < m → ∃ i : Nat, l[k]? = some (i : Int) ∧ i < q.m ∧ s.ty[i]? = ts[k]?) (z1 z2 : Int) (hz : (z1, z2) = if m ≠ F.ps.length then (0, 43) else if ts = F.ps.map Prod.snd then (F.ret, 0) else (0, 42)) :
  Calls Tryz.prog 103 #[.pointer (some ⟨q.P, 0, none⟩), .agg #[.int .i64 21, .int .i64 ln, .int .i64 n, .string (ofL x), .slice a m c]] w fun e w' => e = .returned (.tuple #[.int .i64 z1, .int .i64 z2]) ∧ Keeps (fun _ => False) w w' := by
 have HH := Lib.hid h
 clear h
 obtain ⟨X, hX⟩ : ∃ X, X = ofL x := ⟨_, rfl⟩
 have HXX := Lib.hid hX
 rw [← hX]
 clear hX
 go_enter Tryz.func103, Tryz.ntmps103
 go_upto_region 1 with fail
 obtain ⟨wa, hwa⟩ : ∃ w1, w1 = w.alloc (.cells #[.pointer (some ⟨q.P, 0, none⟩)] 86) := ⟨_, rfl⟩
 have ka := Keeps.one w (.cells #[.pointer (some ⟨q.P, 0, none⟩)] 86)
 have LC := Loc.new (w := w) (R := fun _ => False) (fun h => h) [.pointer (some ⟨q.P, 0, none⟩)] 86
 have e1 : wa.heap.size = w.heap.size + 1 := by rw [hwa]; simp
 replace LC : Loc wa (fun _ => False) w.heap.size [.pointer (some ⟨q.P, 0, none⟩)] := by rw [hwa]; exact LC
 rw [← hwa] at ka ⊢
 obtain ⟨w1, hw1⟩ : ∃ w1, w1 = wa.alloc (.cells #[.int .i64 21, .int .i64 ln, .int .i64 n, .string X, .slice a m c] 41) := ⟨_, rfl⟩
 have kb := Keeps.one wa (.cells #[.int .i64 21, .int .i64 ln, .int .i64 n, .string X, .slice a m c] 41)
 have LN : Loc w1 (fun _ => False) (w.heap.size + 1) [.int .i64 21, .int .i64 ln, .int .i64 n, .string X, .slice a m c] := by rw [hw1, ← e1]; exact Loc.new (fun h => h) [.int .i64 21, .int .i64 ln, .int .i64 n, .string X, .slice a m c] 41
 rw [← hw1] at kb ⊢
 generalize w.heap.size + 1 = PN at LN e1 ⊢
 generalize w.heap.size = PC at LC ⊢
 have LC := LC.keeps kb
 have K1 := Lib.hid (ka.trans kb (fun _ _ h => h))
 have c0 := LC.cells 0 _ rfl
 have b0 := LN.cells 0 _ rfl
 have b3 := LN.cells 3 _ rfl
 have b4 := LN.cells 4 _ rfl
 have HL := Lib.hid (And.intro LC LN)
 have FC : Hid (Calls Tryz.prog 46 #[.pointer (some ⟨q.P, 0, none⟩), .string X] w1 fun e w' => e = .returned (.tuple #[.agg #[.string SO, .int .i64 ot, .int .i64 os], .bool bk]) ∧ Keeps (fun _ => False) w1 w') := Lib.hid (by
  have hc := pfind_any (HH.out.keep K1.out) x hV
  rw [← HXX.out, hfv] at hc
  exact hc)
 have DC : Hid (∀ w', Keeps (fun _ => False) w1 w' → Calls Tryz.prog 130 #[.pointer (some ⟨q.P, 0, none⟩), .agg #[.int .i64 21, .int .i64 ln, .int .i64 n, .string X, .slice a m c]] w' fun e w'' => e = .returned (.tuple #[.int .i64 z1, .int .i64 z2]) ∧ Keeps (fun _ => False) w1 w'') := Lib.hid (fun w' k => by
  have hc := pcall_any ((HH.out.keep K1.out).keep k) ln n x a m c hk6 F hv hp6 l hl hm6 hr ts hts hb (z1, z2) hz
  rw [← HXX.out] at hc
  exact hc.mono (fun e w'' h => And.intro h.1 (k.trans h.2 (fun _ _ h => h))))
 clear hb hz hr hl hts hv
 generalize q.P = P at c0 FC LC HL DC ⊢
 clear hfv hV ka kb hwa hw1 e1 LC LN  
 go_wp2_with fail
 refine FC.out.mono ?_
 rintro e w2 ⟨rfl, k2⟩
 go_upto_region 3 with fail
 obtain ⟨P7, hP7⟩ : ∃ X, X = w2.heap.size := ⟨_, rfl⟩
 obtain ⟨w3, hw3⟩ : ∃ w3, w3 = w2.alloc (.cells #[.string SO, .int .i64 ot, .int .i64 os] 46) := ⟨_, rfl⟩
 have kc := Keeps.one w2 (.cells #[.string SO, .int .i64 ot, .int .i64 os] 46)
 have L7 : Loc w3 (fun _ => False) P7 [.string SO, .int .i64 ot, .int .i64 os] := by rw [hw3, hP7]; exact Loc.new (fun h => h) [.string SO, .int .i64 ot, .int .i64 os] 46
 rw [← hP7]
 rw [← hw3] at kc ⊢
 have k3 := k2.trans kc (fun _ _ h => h)
 have K3 := Lib.hid k3
 have o0 := L7.cells 0 _ rfl
 have o1 := L7.cells 1 _ rfl
 have o2 := L7.cells 2 _ rfl
 replace c0 := (k3.cell (cell_ltk c0) (fun h => h)).trans c0
 replace b0 := (k3.cell (cell_ltk b0) (fun h => h)).trans b0
 replace b3 := (k3.cell (cell_ltk b3) (fun h => h)).trans b3
 replace b4 := (k3.cell (cell_ltk b4) (fun h => h)).trans b4
 clear FC k2 kc hw3 hP7 k3 L7
 have b1 := (K3.out.cell HL.out.2.lt (fun h => h)).trans (HL.out.2.cells 1 _ rfl)
 have b2 := (K3.out.cell HL.out.2.lt (fun h => h)).trans (HL.out.2.cells 2 _ rfl)
 go_wp2_with fail
 refine (DC.out _ K3.out).mono ?_
 rintro e w4 ⟨rfl, k4⟩
 clear DC
 go_wp2_with fail
 go_ret2
 exact ⟨by first | done | rfl, K1.out.trans k4 (fun _ _ h => h)⟩
set_option maxRecDepth 100000 in
set_option maxHeartbeats 16000000 in
theorem tells_st_ok {w : World} {q : CkQ} {nd : List Nd} {fs : List Fnc} {w0 : World} {R : Nat → Prop} {s : CkS} (h : Ck w q nd fs w0 R s) (ln n : Int) (x : List UInt8) (a : Option Addr) (m c : Nat) (hV : s.V.length ≤ 1000) (SO : ByteArray) (ot os : Int) (bk : Bool) (hfv : findV s.V x = .tuple #[.agg #[.string SO, .int .i64 ot, .int .i64 os], .bool bk])  (k : Int) (hk : k ≠ 1 ∧ k ≠ 2 ∧ k ≠ 3 ∧ k ≠ 4 ∧ k ≠ 5 ∧ k ≠ 6 ∧ k ≠ 7 ∧ k ≠ 8 ∧ k ≠ 9 ∧ k ≠ 19 ∧ k ≠ 20 ∧ k ≠ 21) (hd : ∀ PC PN w', Ck w' q nd fs w0 R s → w'.cell? ⟨PC, 0, none⟩ = some (.pointer (some ⟨q.P, 0, none⟩)) → w'.cell? ⟨PN, 4, none⟩ = some (.slice a m c) → Calls Tryz.prog 131 #[.pointer (some ⟨q.P, 0, none⟩), .agg #[.int .i64 k, .int .i64 ln, .int .i64 n, .string (ofL x), .slice a m c], .agg #[.string SO, .int .i64 ot, .int .i64 os], .func (.func 128) #[] #[.pointer (some ⟨PC, 0, none⟩), .pointer (some ⟨PN, 0, none⟩)]] w' fun e w'' => e = .returned (.bool true) ∧ Keeps (fun _ => False) w' w'') :
  Calls Tryz.prog 103 #[.pointer (some ⟨q.P, 0, none⟩), .agg #[.int .i64 k, .int .i64 ln, .int .i64 n, .string (ofL x), .slice a m c]] w fun e w' => e = .returned (.tuple #[.int .i64 0, .int .i64 0]) ∧ Keeps (fun _ => False) w w' := by
 have HH := Lib.hid h
 clear h
 obtain ⟨X, hX⟩ : ∃ X, X = ofL x := ⟨_, rfl⟩
 have HXX := Lib.hid hX
 rw [← hX]
 clear hX
 go_enter Tryz.func103, Tryz.ntmps103
 go_upto_region 1 with fail
 obtain ⟨wa, hwa⟩ : ∃ w1, w1 = w.alloc (.cells #[.pointer (some ⟨q.P, 0, none⟩)] 86) := ⟨_, rfl⟩
 have ka := Keeps.one w (.cells #[.pointer (some ⟨q.P, 0, none⟩)] 86)
 have LC := Loc.new (w := w) (R := fun _ => False) (fun h => h) [.pointer (some ⟨q.P, 0, none⟩)] 86
 have e1 : wa.heap.size = w.heap.size + 1 := by rw [hwa]; simp
 replace LC : Loc wa (fun _ => False) w.heap.size [.pointer (some ⟨q.P, 0, none⟩)] := by rw [hwa]; exact LC
 rw [← hwa] at ka ⊢
 obtain ⟨w1, hw1⟩ : ∃ w1, w1 = wa.alloc (.cells #[.int .i64 k, .int .i64 ln, .int .i64 n, .string X, .slice a m c] 41) := ⟨_, rfl⟩
 have kb := Keeps.one wa (.cells #[.int .i64 k, .int .i64 ln, .int .i64 n, .string X, .slice a m c] 41)
 have LN : Loc w1 (fun _ => False) (w.heap.size + 1) [.int .i64 k, .int .i64 ln, .int .i64 n, .string X, .slice a m c] := by rw [hw1, ← e1]; exact Loc.new (fun h => h) [.int .i64 k, .int .i64 ln, .int .i64 n, .string X, .slice a m c] 41
 rw [← hw1] at kb ⊢
 generalize w.heap.size + 1 = PN at LN e1 ⊢
 generalize w.heap.size = PC at LC ⊢
 have LC := LC.keeps kb
 have K1 := Lib.hid (ka.trans kb (fun _ _ h => h))
 have c0 := LC.cells 0 _ rfl
 have b0 := LN.cells 0 _ rfl
 have b3 := LN.cells 3 _ rfl
 have b4 := LN.cells 4 _ rfl
 have HL := Lib.hid (And.intro LC LN)
 have FC : Hid (Calls Tryz.prog 46 #[.pointer (some ⟨q.P, 0, none⟩), .string X] w1 fun e w' => e = .returned (.tuple #[.agg #[.string SO, .int .i64 ot, .int .i64 os], .bool bk]) ∧ Keeps (fun _ => False) w1 w') := Lib.hid (by
  have hc := pfind_any (HH.out.keep K1.out) x hV
  rw [← HXX.out, hfv] at hc
  exact hc)
 have DC : Hid (∀ w', Keeps (fun _ => False) w1 w' → Calls Tryz.prog 131 #[.pointer (some ⟨q.P, 0, none⟩), .agg #[.int .i64 k, .int .i64 ln, .int .i64 n, .string X, .slice a m c], .agg #[.string SO, .int .i64 ot, .int .i64 os], .func (.func 128) #[] #[.pointer (some ⟨PC, 0, none⟩), .pointer (some ⟨PN, 0, none⟩)]] w' fun e w'' => e = .returned (.bool true) ∧ Keeps (fun _ => False) w1 w'') := Lib.hid (fun w' k => by
  have hc := hd PC PN w' ((HH.out.keep K1.out).keep k) ((HL.out.1.keeps k).cells 0 _ rfl) ((HL.out.2.keeps k).cells 4 _ rfl)
  rw [← HXX.out] at hc
  exact hc.mono (fun e w'' h => And.intro h.1 (k.trans h.2 (fun _ _ h => h))))
 clear hd
 obtain ⟨h1, h2, h3, h4, h5, h6, h7, h8, h9, h19, h20, h21⟩ := hk
 generalize q.P = P at c0 FC LC HL DC ⊢
 clear hfv hV ka kb hwa hw1 e1 LC LN  
 go_wp2_with fail
 refine FC.out.mono ?_
 rintro e w2 ⟨rfl, k2⟩
 go_upto_region 3 with fail
 obtain ⟨P7, hP7⟩ : ∃ X, X = w2.heap.size := ⟨_, rfl⟩
 obtain ⟨w3, hw3⟩ : ∃ w3, w3 = w2.alloc (.cells #[.string SO, .int .i64 ot, .int .i64 os] 46) := ⟨_, rfl⟩
 have kc := Keeps.one w2 (.cells #[.string SO, .int .i64 ot, .int .i64 os] 46)
 have L7 : Loc w3 (fun _ => False) P7 [.string SO, .int .i64 ot, .int .i64 os] := by rw [hw3, hP7]; exact Loc.new (fun h => h) [.string SO, .int .i64 ot, .int .i64 os] 46
 rw [← hP7]
 rw [← hw3] at kc ⊢
 have k3 := k2.trans kc (fun _ _ h => h)
 have K3 := Lib.hid k3
 have o0 := L7.cells 0 _ rfl
 have o1 := L7.cells 1 _ rfl
 have o2 := L7.cells 2 _ rfl
 replace c0 := (k3.cell (cell_ltk c0) (fun h => h)).trans c0
 replace b0 := (k3.cell (cell_ltk b0) (fun h => h)).trans b0
 replace b3 := (k3.cell (cell_ltk b3) (fun h => h)).trans b3
 replace b4 := (k3.cell (cell_ltk b4) (fun h => h)).trans b4
 clear FC k2 kc hw3 hP7 k3 L7
 have b1 := (K3.out.cell HL.out.2.lt (fun h => h)).trans (HL.out.2.cells 1 _ rfl)
 have b2 := (K3.out.cell HL.out.2.lt (fun h => h)).trans (HL.out.2.cells 2 _ rfl)
 go_wp2_with fail
 refine (DC.out _ K3.out).mono ?_
 rintro e w4 ⟨rfl, k4⟩
 clear DC
 go_wp2_with fail
 go_ret2
 exact ⟨by first | done | rfl, K1.out.trans k4 (fun _ _ h => h)⟩
set_option maxRecDepth 100000 in
set_option maxHeartbeats 16000000 in
theorem tells_st_no {w : World} {q : CkQ} {nd : List Nd} {fs : List Fnc} {w0 : World} {R : Nat → Prop} {s : CkS} (h : Ck w q nd fs w0 R s) (ln n : Int) (x : List UInt8) (a : Option Addr) (m c : Nat) (hV : s.V.length ≤ 1000) (SO : ByteArray) (ot os : Int) (bk : Bool) (hfv : findV s.V x = .tuple #[.agg #[.string SO, .int .i64 ot, .int .i64 os], .bool bk])  (k : Int) (hk : k ≠ 1 ∧ k ≠ 2 ∧ k ≠ 3 ∧ k ≠ 4 ∧ k ≠ 5 ∧ k ≠ 6 ∧ k ≠ 7 ∧ k ≠ 8 ∧ k ≠ 9 ∧ k ≠ 19 ∧ k ≠ 20 ∧ k ≠ 21) (hd : ∀ PC PN w', Ck w' q nd fs w0 R s → w'.cell? ⟨PC, 0, none⟩ = some (.pointer (some ⟨q.P, 0, none⟩)) → w'.cell? ⟨PN, 4, none⟩ = some (.slice a m c) → Calls Tryz.prog 131 #[.pointer (some ⟨q.P, 0, none⟩), .agg #[.int .i64 k, .int .i64 ln, .int .i64 n, .string (ofL x), .slice a m c], .agg #[.string SO, .int .i64 ot, .int .i64 os], .func (.func 128) #[] #[.pointer (some ⟨PC, 0, none⟩), .pointer (some ⟨PN, 0, none⟩)]] w' fun e w'' => e = .returned (.bool false) ∧ Keeps (fun _ => False) w' w'') :
  Calls Tryz.prog 103 #[.pointer (some ⟨q.P, 0, none⟩), .agg #[.int .i64 k, .int .i64 ln, .int .i64 n, .string (ofL x), .slice a m c]] w fun e w' => e = .returned (.tuple #[.int .i64 0, .int .i64 42]) ∧ Keeps (fun _ => False) w w' := by
 have HH := Lib.hid h
 clear h
 obtain ⟨X, hX⟩ : ∃ X, X = ofL x := ⟨_, rfl⟩
 have HXX := Lib.hid hX
 rw [← hX]
 clear hX
 go_enter Tryz.func103, Tryz.ntmps103
 go_upto_region 1 with fail
 obtain ⟨wa, hwa⟩ : ∃ w1, w1 = w.alloc (.cells #[.pointer (some ⟨q.P, 0, none⟩)] 86) := ⟨_, rfl⟩
 have ka := Keeps.one w (.cells #[.pointer (some ⟨q.P, 0, none⟩)] 86)
 have LC := Loc.new (w := w) (R := fun _ => False) (fun h => h) [.pointer (some ⟨q.P, 0, none⟩)] 86
 have e1 : wa.heap.size = w.heap.size + 1 := by rw [hwa]; simp
 replace LC : Loc wa (fun _ => False) w.heap.size [.pointer (some ⟨q.P, 0, none⟩)] := by rw [hwa]; exact LC
 rw [← hwa] at ka ⊢
 obtain ⟨w1, hw1⟩ : ∃ w1, w1 = wa.alloc (.cells #[.int .i64 k, .int .i64 ln, .int .i64 n, .string X, .slice a m c] 41) := ⟨_, rfl⟩
 have kb := Keeps.one wa (.cells #[.int .i64 k, .int .i64 ln, .int .i64 n, .string X, .slice a m c] 41)
 have LN : Loc w1 (fun _ => False) (w.heap.size + 1) [.int .i64 k, .int .i64 ln, .int .i64 n, .string X, .slice a m c] := by rw [hw1, ← e1]; exact Loc.new (fun h => h) [.int .i64 k, .int .i64 ln, .int .i64 n, .string X, .slice a m c] 41
 rw [← hw1] at kb ⊢
 generalize w.heap.size + 1 = PN at LN e1 ⊢
 generalize w.heap.size = PC at LC ⊢
 have LC := LC.keeps kb
 have K1 := Lib.hid (ka.trans kb (fun _ _ h => h))
 have c0 := LC.cells 0 _ rfl
 have b0 := LN.cells 0 _ rfl
 have b3 := LN.cells 3 _ rfl
 have b4 := LN.cells 4 _ rfl
 have HL := Lib.hid (And.intro LC LN)
 have FC : Hid (Calls Tryz.prog 46 #[.pointer (some ⟨q.P, 0, none⟩), .string X] w1 fun e w' => e = .returned (.tuple #[.agg #[.string SO, .int .i64 ot, .int .i64 os], .bool bk]) ∧ Keeps (fun _ => False) w1 w') := Lib.hid (by
  have hc := pfind_any (HH.out.keep K1.out) x hV
  rw [← HXX.out, hfv] at hc
  exact hc)
 have DC : Hid (∀ w', Keeps (fun _ => False) w1 w' → Calls Tryz.prog 131 #[.pointer (some ⟨q.P, 0, none⟩), .agg #[.int .i64 k, .int .i64 ln, .int .i64 n, .string X, .slice a m c], .agg #[.string SO, .int .i64 ot, .int .i64 os], .func (.func 128) #[] #[.pointer (some ⟨PC, 0, none⟩), .pointer (some ⟨PN, 0, none⟩)]] w' fun e w'' => e = .returned (.bool false) ∧ Keeps (fun _ => False) w1 w'') := Lib.hid (fun w' k => by
  have hc := hd PC PN w' ((HH.out.keep K1.out).keep k) ((HL.out.1.keeps k).cells 0 _ rfl) ((HL.out.2.keeps k).cells 4 _ rfl)
  rw [← HXX.out] at hc
  exact hc.mono (fun e w'' h => And.intro h.1 (k.trans h.2 (fun _ _ h => h))))
 clear hd
 obtain ⟨h1, h2, h3, h4, h5, h6, h7, h8, h9, h19, h20, h21⟩ := hk
 generalize q.P = P at c0 FC LC HL DC ⊢
 clear hfv hV ka kb hwa hw1 e1 LC LN  
 go_wp2_with fail
 refine FC.out.mono ?_
 rintro e w2 ⟨rfl, k2⟩
 go_upto_region 3 with fail
 obtain ⟨P7, hP7⟩ : ∃ X, X = w2.heap.size := ⟨_, rfl⟩
 obtain ⟨w3, hw3⟩ : ∃ w3, w3 = w2.alloc (.cells #[.string SO, .int .i64 ot, .int .i64 os] 46) := ⟨_, rfl⟩
 have kc := Keeps.one w2 (.cells #[.string SO, .int .i64 ot, .int .i64 os] 46)
 have L7 : Loc w3 (fun _ => False) P7 [.string SO, .int .i64 ot, .int .i64 os] := by rw [hw3, hP7]; exact Loc.new (fun h => h) [.string SO, .int .i64 ot, .int .i64 os] 46
 rw [← hP7]
 rw [← hw3] at kc ⊢
 have k3 := k2.trans kc (fun _ _ h => h)
 have K3 := Lib.hid k3
 have o0 := L7.cells 0 _ rfl
 have o1 := L7.cells 1 _ rfl
 have o2 := L7.cells 2 _ rfl
 replace c0 := (k3.cell (cell_ltk c0) (fun h => h)).trans c0
 replace b0 := (k3.cell (cell_ltk b0) (fun h => h)).trans b0
 replace b3 := (k3.cell (cell_ltk b3) (fun h => h)).trans b3
 replace b4 := (k3.cell (cell_ltk b4) (fun h => h)).trans b4
 clear FC k2 kc hw3 hP7 k3 L7
 have b1 := (K3.out.cell HL.out.2.lt (fun h => h)).trans (HL.out.2.cells 1 _ rfl)
 have b2 := (K3.out.cell HL.out.2.lt (fun h => h)).trans (HL.out.2.cells 2 _ rfl)
 go_wp2_with fail
 refine (DC.out _ K3.out).mono ?_
 rintro e w4 ⟨rfl, k4⟩
 clear DC
 go_wp2_with fail
 go_ret2
 exact ⟨by first | done | rfl, K1.out.trans k4 (fun _ _ h => h)⟩
end Go.Proofs.YtbhpnioggpgbhaaGreatDoor
