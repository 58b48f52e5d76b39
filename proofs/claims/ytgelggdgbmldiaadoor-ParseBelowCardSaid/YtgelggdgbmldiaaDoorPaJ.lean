/-
  Layer 2: calls, and types by their words. Written by an AI agent.
-/
import Derived.Test.YtgelggdgbmldiaaDoorPaI
namespace Go.Proofs.YtgelggdgbmldiaaDoor
open Go Go.RowKit Go.Shelf
set_option linter.unusedVariables false
set_option linter.unusedSimpArgs false
set_option maxRecDepth 100000 in
set_option maxHeartbeats 8000000 in
theorem type_any (x : ByteArray) (w : World) : Calls Tryd.prog 81 #[.string x] w fun e w' => e = .returned (.int .i64 (typeN x.data.toList)) ∧ w' = w := by
  have key : ∀ (b1 b2 b3 b4 : Bool), b1 = decide (x.data.toList = [105, 110, 116]) → b2 = decide (x.data.toList = [98, 111, 111, 108]) → b3 = decide (x.data.toList = [116, 101, 120, 116]) → b4 = decide (x.data.toList = [108, 105, 115, 116]) → typeN x.data.toList = (if b1 then 1 else if b2 then 2 else if b3 then 3 else if b4 then 4 else 0) := by
    rintro _ _ _ _ rfl rfl rfl rfl
    unfold typeN
    simp only [decide_eq_true_eq]
  obtain ⟨b1, e1⟩ : ∃ b, b = decide (x.data.toList = [105, 110, 116]) := ⟨_, rfl⟩
  obtain ⟨b2, e2⟩ : ∃ b, b = decide (x.data.toList = [98, 111, 111, 108]) := ⟨_, rfl⟩
  obtain ⟨b3, e3⟩ : ∃ b, b = decide (x.data.toList = [116, 101, 120, 116]) := ⟨_, rfl⟩
  obtain ⟨b4, e4⟩ : ∃ b, b = decide (x.data.toList = [108, 105, 115, 116]) := ⟨_, rfl⟩
  rw [key b1 b2 b3 b4 e1 e2 e3 e4]
  have q1 : (x.toList == [105, 110, 116]) = b1 := by rw [e1]; exact word_beq x _
  have q2 : (x.toList == [98, 111, 111, 108]) = b2 := by rw [e2]; exact word_beq x _
  have q3 : (x.toList == [116, 101, 120, 116]) = b3 := by rw [e3]; exact word_beq x _
  have q4 : (x.toList == [108, 105, 115, 116]) = b4 := by rw [e4]; exact word_beq x _
  clear key e1 e2 e3 e4
  cases b1 with
  | true =>
    go_enter Tryd.func81, Tryd.ntmps81
    go_wp2
    go_ret
    exact ⟨rfl, rfl⟩
  | false =>
    cases b2 with
    | true =>
      go_enter Tryd.func81, Tryd.ntmps81
      go_wp2
      go_ret
      exact ⟨rfl, rfl⟩
    | false =>
      cases b3 with
      | true =>
        go_enter Tryd.func81, Tryd.ntmps81
        go_wp2
        go_ret
        exact ⟨rfl, rfl⟩
      | false =>
        cases b4 with
        | true =>
          go_enter Tryd.func81, Tryd.ntmps81
          go_wp2
          go_ret
          exact ⟨rfl, rfl⟩
        | false =>
          go_enter Tryd.func81, Tryd.ntmps81
          go_wp2
          go_ret
          exact ⟨rfl, rfl⟩
set_option maxRecDepth 100000 in
set_option maxHeartbeats 8000000 in
theorem calls_any {P : Nat} {src : ByteArray} {T : List Tok} {R : Nat → Prop} {s : PS} {w : World} (h : Par w P src T R s) : Calls Tryd.prog 113 #[.pointer (some ⟨P, 0, none⟩)] w fun e w' => e = .returned (.bool (callsS T s)) ∧ Keeps (fun _ => False) w w' := by
  have H := Lib.hid h
  have NC := Lib.hid (now_at h (t := tokA T s) rfl)
  obtain ⟨k, hk⟩ : ∃ k : Int, k = ((tokA T s).k : Int) := ⟨_, rfl⟩
  have F0 : ∀ w, Sem.run Tryd.prog (Instr.field 54 (.agg #[.int .i64 k, .string (ofL (tokA T s).x), .int .i64 ((tokA T s).p : Int)]) 0) w = .ok (.int .i64 k) w := fun w => tok_field0 _ _ _ w
  rw [← hk] at NC
  by_cases h3 : k = 3
  · have hk3 : (tokA T s).k = 3 := by omega
    have hmore := h.more (by rw [hk3]; decide)
    have hE : callsS T s = (decide (((T.getD (s.i + 1) default).k : Int) = 5) && decide ((T.getD (s.i + 1) default).x = [40])) := by
      unfold callsS
      rw [decide_eq_true hk3, Bool.true_and]
      congr 1
      exact decide_eq_decide.2 (by omega)
    rw [hE]
    have hle := h.ok.le
    obtain ⟨A, cT, v, L, h⟩ := h
    have hP := h.lo
    obtain ⟨b, off, rfl, hc⟩ := h.tok (by omega)
    obtain ⟨t0, t1, t2⟩ := hc (s.i + 1) (by omega)
    have c1 := h.c1
    have c2 := h.c2
    obtain ⟨n, hn⟩ : ∃ n, n = T.length := ⟨_, rfl⟩
    rw [← hn] at c1 hmore hle
    generalize ((T.getD (s.i + 1) default).k : Int) = tk at t0 ⊢
    generalize (T.getD (s.i + 1) default).x = tx at t1 ⊢
    generalize ((T.getD (s.i + 1) default).p : Int) = tp at t2
    generalize tokA T s = tz at NC F0
    generalize s.i = i at c2 t0 t1 t2 hmore
    have i1 : IntKind.i64.wrap ((i : Int) + 1) = (i : Int) + 1 := IntWalk.i64_in _ (by omega)
    have h0 : (0 : Int) ≤ (i : Int) + 1 := by omega
    have h1 : (i : Int) + 1 < (n : Int) := by omega
    have h2 : ((i : Int) + 1).toNat = i + 1 := by omega
    have hne : (k != 3) = false := by rw [h3]; rfl
    have qx : ((ofL tx).toList == [40]) = decide (tx = [40]) := by rw [word_beq, ofL_list]
    obtain ⟨bx, hbx⟩ : ∃ bx, bx = decide (tx = [40]) := ⟨_, rfl⟩
    rw [← hbx] at qx ⊢
    have hb := cell_ltk t0
    have C := Lib.hid (And.intro c1 (And.intro c2 (And.intro t0 (And.intro t1 t2))))
    clear hE hk3 hk h3 h hc H hn c1 c2 t0 t1 t2 hbx
    go_enter Tryd.func113, Tryd.ntmps113
    go_wp2_with fail
    refine NC.out.mono ?_
    rintro e w1 ⟨rfl, k1⟩
    obtain ⟨c1, c2, t0, t1, t2⟩ := C.out
    have c1 := (k1.cell hP (fun h => h)).trans c1
    have c2 := (k1.cell hP (fun h => h)).trans c2
    have t0 := (k1.cell hb (fun h => h)).trans t0
    have t1 := (k1.cell hb (fun h => h)).trans t1
    have t2 := (k1.cell hb (fun h => h)).trans t2
    have K1 := Lib.hid k1
    have ka := Keeps.one w1 (.cells #[.int .i64 0, .string { data := #[] }, .int .i64 0] 54)
    have d1 := (ka.cell (cell_ltk c1) (fun h => h)).trans c1
    have d2 := (ka.cell (cell_ltk c2) (fun h => h)).trans c2
    have u0 := (ka.cell (cell_ltk t0) (fun h => h)).trans t0
    have u1 := (ka.cell (cell_ltk t1) (fun h => h)).trans t1
    have u2 := (ka.cell (cell_ltk t2) (fun h => h)).trans t2
    clear k1 NC C ka
    go_wp2_with fail
    go_region
    have K2 : Hid (Keeps (fun _ => False) w ((w1.alloc (.cells #[.int .i64 tk, .string (ofL tx), .int .i64 tp] 54)).drew)) := Lib.hid (K1.out.alloc _).drew
    have z := Loc.new (w := w1) (R := fun _ => False) (fun h => h) [.int .i64 tk, .string (ofL tx), .int .i64 tp] 54
    obtain ⟨X, hX⟩ : ∃ X, X = w1.heap.size := ⟨_, rfl⟩
    obtain ⟨w2, hw2⟩ : ∃ w2, w2 = (w1.alloc (.cells #[.int .i64 tk, .string (ofL tx), .int .i64 tp] 54)).drew := ⟨_, rfl⟩
    have z0 : w2.cell? ⟨X, 0, none⟩ = some (.int .i64 tk) := by rw [hw2, hX]; exact z.cells 0 _ rfl
    have z1 : w2.cell? ⟨X, 1, none⟩ = some (.string (ofL tx)) := by rw [hw2, hX]; exact z.cells 1 _ rfl
    rw [← hX]
    rw [← hw2] at K2 ⊢
    clear hw2 hX z K1 c1 c2 t0 t1 t2 d1 d2 u0 u1 u2
    by_cases h5 : tk = 5
    · rw [h5] at z0
      have DD : Hid (decide (tk = 5) = true) := Lib.hid (decide_eq_true h5)
      clear h5
      go_wp2_with fail
      go_ret
      exact ⟨by rw [DD.out]; rfl, K2.out⟩
    · have DD : Hid (decide (tk = 5) = false) := Lib.hid (decide_eq_false h5)
      have d5 : (tk == 5) = false := by simpa using h5
      clear h5
      go_wp2_with fail
      go_ret
      exact ⟨by rw [DD.out]; rfl, K2.out⟩
  · have hk3 : ¬ (tokA T s).k = 3 := by omega
    have hE : callsS T s = false := by unfold callsS; rw [decide_eq_false hk3]; rfl
    rw [hE]
    have hne : (k != 3) = true := by simpa using h3
    generalize tokA T s = tz at NC F0
    clear hE hk3 hk h H h3
    go_enter Tryd.func113, Tryd.ntmps113
    go_wp2_with fail
    refine NC.out.mono ?_
    rintro e w1 ⟨rfl, k1⟩
    have K1 := Lib.hid k1
    clear k1 NC
    go_wp2_with fail
    go_ret
    exact ⟨rfl, K1.out⟩
end Go.Proofs.YtgelggdgbmldiaaDoor
