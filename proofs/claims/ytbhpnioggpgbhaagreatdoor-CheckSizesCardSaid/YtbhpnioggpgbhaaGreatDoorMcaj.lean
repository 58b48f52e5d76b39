/-
 Layer 2: the cursor's functions. Written by an AI agent.
 Layer 2: the cursor's line, and what it looks for. Written by an AI agent.
 Layer 2: what the cursor looks for. Written by an AI agent.
 Layer 2: how the cursor goes on, and fails. Written by an AI agent.
 Layer 2: calls, want, name. Written by an AI agent.
-/
import Derived.Shelf.Slices.Turned
import Derived.Lib.SlicesS
import Derived.Test.YtbhpnioggpgbhaaGreatDoorMcai
namespace Go.Proofs.YtbhpnioggpgbhaaGreatDoor
open Go Go.RowKit Go.Shelf
set_option linter.unusedVariables false
set_option linter.unusedSimpArgs false
theorem results_cell1 {fn : Func} {p : Tmp} {ty : TypeId} (h : fn.results = #[.cell p ty]) (tmps : Array Value) (P : Program) (w : World) :
  (results fn tmps).run P w = ((asAddr (tmps.getD p undef)).run P w).andThen fun a w₁ => (loadVar ty a).run P w₁ := by
 simp only [results, h]
 simp [Sem.run_bind, Result.andThen]
theorem tok_field0 (k : Int) (x : ByteArray) (p : Int) (w : World) : Sem.run Tryz.prog (Instr.field 77 (.agg #[.int .i64 k, .string x, .int .i64 p]) 0) w = .ok (.int .i64 k) w := by kernel_rfl
theorem tok_field1 (k : Int) (x : ByteArray) (p : Int) (w : World) : Sem.run Tryz.prog (Instr.field 77 (.agg #[.int .i64 k, .string x, .int .i64 p]) 1) w = .ok (.string x) w := by kernel_rfl
theorem tok_field2 (k : Int) (x : ByteArray) (p : Int) (w : World) : Sem.run Tryz.prog (Instr.field 77 (.agg #[.int .i64 k, .string x, .int .i64 p]) 2) w = .ok (.int .i64 p) w := by kernel_rfl
/-- The token that is next, as a value. -/
def tokV (T : List Tok) (s : PS) : Value := .agg #[.int .i64 ((tokA T s).k : Int), .string (ofL (tokA T s).x), .int .i64 ((tokA T s).p : Int)]
set_option maxRecDepth 100000 in
set_option maxHeartbeats 8000000 in
theorem now_any {P : Nat} {src : ByteArray} {T : List Tok} {R : Nat → Prop} {s : PS} {w : World} (h : Par w P src T R s) :
  Calls Tryz.prog 34 #[.pointer (some ⟨P, 0, none⟩)] w fun e w' => e = .returned (tokV T s) ∧ Keeps (fun _ => False) w w' := by
 obtain ⟨A, cT, v, L, h⟩ := h
 have c1 := h.c1
 have c2 := h.c2
 have hi := h.hi
 have hle := h.ok.le
 obtain ⟨b, off, rfl, hc⟩ := h.tok (by omega)
 obtain ⟨t0, t1, t2⟩ := hc s.i hi
 obtain ⟨i, hI⟩ : ∃ i, i = s.i := ⟨_, rfl⟩
 obtain ⟨n, hn⟩ : ∃ n, n = T.length := ⟨_, rfl⟩
 have hv : tokV T s = .agg #[.int .i64 ((T.getD s.i default).k : Int), .string (ofL (T.getD s.i default).x), .int .i64 ((T.getD s.i default).p : Int)] := rfl
 rw [hv, ← hI]
 rw [← hI] at c2 hi t0 t1 t2
 rw [← hn] at c1 hi hle
 generalize ((T.getD i default).k : Int) = tk at t0 ⊢
 generalize ofL (T.getD i default).x = tx at t1 ⊢
 generalize ((T.getD i default).p : Int) = tp at t2 ⊢
 have h0 : (0 : Int) ≤ (i : Int) := by omega
 have h1 : (i : Int) < (n : Int) := by omega
 have hP := h.lo
 have hb := cell_ltk t0
 clear hv h hc hI hn
 go_enter Tryz.func34, Tryz.ntmps34
 go_wp2_with fail
 have k1 := Keeps.one w (.cells #[.int .i64 0, .string { data := #[] }, .int .i64 0] 77)
 have z := Loc.new (w := w) (R := fun _ => False) (fun h => h) [.int .i64 0, .string { data := #[] }, .int .i64 0] 77
 obtain ⟨X, hX⟩ : ∃ X, X = w.heap.size := ⟨_, rfl⟩
 rw [← hX] at z ⊢
 obtain ⟨w1, hw1⟩ : ∃ w1, w1 = w.alloc (.cells #[.int .i64 0, .string { data := #[] }, .int .i64 0] 77) := ⟨_, rfl⟩
 have z : Loc w1 (fun _ => False) X [.int .i64 0, .string { data := #[] }, .int .i64 0] := by rw [hw1]; exact z
 rw [← hw1] at k1 ⊢
 have hXP : P ≠ X := by omega
 have hXb : b ≠ X := by omega
 have z0 := z.cells 0 _ rfl
 have z1 := z.cells 1 _ rfl
 have z2 := z.cells 2 _ rfl
 have y0 := z.fz 0
 have y1 := z.fz 1
 have y2 := z.fz 2
 have c1 := (k1.cell hP (fun h => h)).trans c1
 have c2 := (k1.cell hP (fun h => h)).trans c2
 have t0 := (k1.cell hb (fun h => h)).trans t0
 have t1 := (k1.cell hb (fun h => h)).trans t1
 have t2 := (k1.cell hb (fun h => h)).trans t2
 have hfin : Hid (∀ v0 v1 v2 : Value, Keeps (fun _ => False) w (((w1.setCell ⟨X, 0, none⟩ v0).setCell ⟨X, 1, none⟩ v1).setCell ⟨X, 2, none⟩ v2).drew) := Lib.hid fun v0 v1 v2 => by
  have hx : ∀ k : Nat, (⟨X, k, none⟩ : Addr).block < w.heap.size → False := fun k (h : X < w.heap.size) => by omega
  exact (((k1.setCell (p := ⟨X, 0, none⟩) (fun h => hx 0 h) v0).setCell (p := ⟨X, 1, none⟩) (fun h => hx 1 h) v1).setCell (p := ⟨X, 2, none⟩) (fun h => hx 2 h) v2).drew
 clear z k1 hw1 hX hP hb
 go_region
 all_goals (go_wp2; (try simp only [Exit.inBlock, Exit.then]); refine bodyPost_ret (v := .agg #[.int .i64 tk, .string tx, .int .i64 tp]) ?_ rfl ?_)
 all_goals first | (rw [results_cell1 rfl]; go_simp; done) | skip
 all_goals exact ⟨rfl, hfin.out _ _ _⟩
end Go.Proofs.YtbhpnioggpgbhaaGreatDoor

namespace Go.Proofs.YtbhpnioggpgbhaaGreatDoor
open Go Go.RowKit Go.Shelf
set_option linter.unusedVariables false
set_option linter.unusedSimpArgs false
set_option maxRecDepth 100000 in
set_option maxHeartbeats 8000000 in
theorem pline_any {P : Nat} {src : ByteArray} {T : List Tok} {R : Nat → Prop} {s : PS} {w : World} (hsz : src.size ≤ 1000) (h : Par w P src T R s) :
  Calls Tryz.prog 59 #[.pointer (some ⟨P, 0, none⟩)] w fun e w' => e = .returned (.int .i64 (lineS src.data.toList T s)) ∧ Keeps (fun _ => False) w w' := by
 have H := Lib.hid h
 obtain ⟨A, cT, v, L, h⟩ := h
 have c0 := h.c0
 have hP := h.lo
 clear h
 have NC : Hid (∀ w1, Keeps (fun _ => False) w w1 → Calls Tryz.prog 34 #[.pointer (some ⟨P, 0, none⟩)] w1 fun e w' => e = .returned (.agg #[.int .i64 ((tokA T s).k : Int), .string (ofL (tokA T s).x), .int .i64 ((tokA T s).p : Int)]) ∧ Keeps (fun _ => False) w1 w') := Lib.hid fun w1 k => now_any (H.out.keep k)
 have LC : Hid (∀ w1, Calls Tryz.prog 90 #[.string src, .int .i64 ((tokA T s).p : Int)] w1 fun e w' => e = .returned (.int .i64 (lineS src.data.toList T s)) ∧ w' = w1) := Lib.hid fun w1 => line_any src hsz _ w1
 generalize lineS src.data.toList T s = ln at LC ⊢
 generalize tokA T s = tk at NC LC
 have F2 : ∀ w, Sem.run Tryz.prog (Instr.field 77 (.agg #[.int .i64 (tk.k : Int), .string (ofL tk.x), .int .i64 (tk.p : Int)]) 2) w = .ok (.int .i64 (tk.p : Int)) w := fun w => tok_field2 _ _ _ w
 go_enter Tryz.func59, Tryz.ntmps59
 go_wp2_with fail
 refine wp_region_held_drew (S := fun w' => w'.cell? ⟨P, 0, none⟩ = some (.string src) ∧ Keeps (fun _ => False) w w') (by kernel_rfl) (⟨c0, (Keeps.refl _ _).drew⟩) (fun hHeld => ?_)
 clear c0
 refine wpAnyH_take (i := 0) (v := ?_) rfl (by kernel_rfl) (by kernel_rfl) (by kernel_rfl) (fun _ _ _ h => h) (Or.inl ⟨by rfl, ?_⟩) (by assumption) ?_
 rotate_left
 ·(intro w' hSw; (try dsimp only at hSw); obtain ⟨q0, sk⟩ := hSw; go_simp; (try (with_reducible rfl)))
 simp only [Act.put, List.getElem_toArray, List.getElem_cons_succ, List.getElem_cons_zero, List.setIfInBounds_toArray, List.set_cons_succ, List.set_cons_zero]
 refine wpAnyH_take (i := 1) (v := ?_) rfl (by kernel_rfl) (by kernel_rfl) (by kernel_rfl) (fun _ _ _ h => h) (Or.inl ⟨by rfl, ?_⟩) (by assumption) ?_
 rotate_left
 ·(intro w' hSw; (try dsimp only at hSw); obtain ⟨q0, sk⟩ := hSw; go_simp; (try (with_reducible rfl)))
 simp only [Act.put, List.getElem_toArray, List.getElem_cons_succ, List.getElem_cons_zero, List.setIfInBounds_toArray, List.set_cons_succ, List.set_cons_zero]
 refine wpAnyH_take (i := 2) (v := ?_) rfl (by kernel_rfl) (by kernel_rfl) (by kernel_rfl) (fun _ _ _ h => h) (Or.inl ⟨by rfl, ?_⟩) (by assumption) ?_
 rotate_left
 ·(intro w' hSw; (try dsimp only at hSw); obtain ⟨q0, sk⟩ := hSw; go_simp; (try (with_reducible rfl)))
 simp only [Act.put, List.getElem_toArray, List.getElem_cons_succ, List.getElem_cons_zero, List.setIfInBounds_toArray, List.set_cons_succ, List.set_cons_zero]
 refine wpAnyH_take (i := 3) (v := ?_) rfl (by kernel_rfl) (by kernel_rfl) (by kernel_rfl) (fun _ _ _ h => h) (Or.inl ⟨by rfl, ?_⟩) (by assumption) ?_
 rotate_left
 ·(intro w' hSw; (try dsimp only at hSw); obtain ⟨q0, sk⟩ := hSw; go_simp; (try (with_reducible rfl)))
 simp only [Act.put, List.getElem_toArray, List.getElem_cons_succ, List.getElem_cons_zero, List.setIfInBounds_toArray, List.set_cons_succ, List.set_cons_zero]
 refine wpAnyH_take (i := 4) (v := ?_) rfl (by kernel_rfl) (by kernel_rfl) (by kernel_rfl) (fun _ _ _ h => h) (Or.inl ⟨by rfl, ?_⟩) (by assumption) ?_
 rotate_left
 ·(intro w' hSw; (try dsimp only at hSw); obtain ⟨q0, sk⟩ := hSw; go_simp; (try (with_reducible rfl)))
 simp only [Act.put, List.getElem_toArray, List.getElem_cons_succ, List.getElem_cons_zero, List.setIfInBounds_toArray, List.set_cons_succ, List.set_cons_zero]
 refine wpAnyH_ready (rs := [5]) (by kernel_rfl) (by simp) ?_
 refine AllReadyH.cons rfl (fun K hK => ?_) AllReadyH.nil
 go_simp
 (go_at_call 34; refine (NC.out _ hHeld.2).mono ?_; rintro e w3 ⟨rfl, k3⟩; (try go_simp))
 refine hK.out _ _ ⟨(k3.cell (cell_ltk hHeld.1) (fun h => h)).trans hHeld.1, hHeld.2.trans k3 (fun _ _ h => h)⟩ (fun hHeld => ?_)
 clear hK K k3
 refine wpAnyH_take (i := 6) (v := ?_) rfl (by kernel_rfl) (by kernel_rfl) (by kernel_rfl) (fun _ _ _ h => h) (Or.inl ⟨by rfl, ?_⟩) (by assumption) ?_
 rotate_left
 ·(intro w' hSw; (try dsimp only at hSw); obtain ⟨q0, sk⟩ := hSw; go_simp; (try (with_reducible rfl)))
 simp only [Act.put, List.getElem_toArray, List.getElem_cons_succ, List.getElem_cons_zero, List.setIfInBounds_toArray, List.set_cons_succ, List.set_cons_zero]
 refine wpAnyH_ready (rs := [7]) (by kernel_rfl) (by simp) ?_
 refine AllReadyH.cons rfl (fun K hK => ?_) AllReadyH.nil
 go_simp
 (go_at_call 90; refine (LC.out _).mono ?_; rintro e w4 ⟨rfl, rfl⟩; (try go_simp))
 refine hK.out _ _ hHeld (fun hHeld => ?_)
 clear hK K
 refine wpAnyH_take (i := 8) (v := ?_) rfl (by kernel_rfl) (by kernel_rfl) (by kernel_rfl) (fun _ _ _ h => h) (Or.inl ⟨by rfl, ?_⟩) (by assumption) ?_
 rotate_left
 ·(intro w' hSw; (try dsimp only at hSw); obtain ⟨q0, sk⟩ := hSw; go_simp; (try (with_reducible rfl)))
 simp only [Act.put, List.getElem_toArray, List.getElem_cons_succ, List.getElem_cons_zero, List.setIfInBounds_toArray, List.set_cons_succ, List.set_cons_zero]
 refine wpAnyH_done (by kernel_rfl) ?_ _
 have hk := hHeld.2
 clear hHeld
 go_wp2
 go_ret
 exact ⟨rfl, hk⟩
end Go.Proofs.YtbhpnioggpgbhaaGreatDoor

namespace Go.Proofs.YtbhpnioggpgbhaaGreatDoor
open Go Go.RowKit Go.Shelf
set_option linter.unusedVariables false
set_option linter.unusedSimpArgs false

def laysContains_ren : Go.Shelf.Ren := ⟨fun | 110 => 92 | 109 => 117 | n => n, fun | 31 => 107 | 9 => 9 | 4 => 4 | 3 => 3 | 0 => 0 | n => n, fun | n => n⟩
theorem laysContains : Go.Proofs.Lays.n110 Tryz.prog laysContains_ren := {
  mixed := by kernel_rfl
  f109 := Tryz.func117.trans (congrArg some (by kernel_rfl))
  f110 := Tryz.func92.trans (congrArg some (by kernel_rfl))
  t0 := Tryz.underlying0
  a0 := Tryz.isAgg0
  z0 := Tryz.sizeOf0
  v0 := Tryz.zeroValue0
  t3 := Tryz.underlying3
  a3 := Tryz.isAgg3
  z3 := Tryz.sizeOf3
  v3 := Tryz.zeroValue3
  t4 := Tryz.underlying4
  a4 := Tryz.isAgg4
  z4 := Tryz.sizeOf4
  v4 := Tryz.zeroValue4
  t9 := Tryz.underlying9
  a9 := Tryz.isAgg9
  z9 := Tryz.sizeOf9
  v9 := Tryz.zeroValue9
  t31 := Tryz.underlying107
  a31 := Tryz.isAgg107
  z31 := Tryz.sizeOf107
  v31 := Tryz.zeroValue107 }
theorem contains_list (xs : List ByteArray) (x : ByteArray) : Lib.containsS xs x = (xs.map fun y => y.data.toList).contains x.data.toList := by
 rw [Bool.eq_iff_iff, Lib.containsS_iff, List.contains_iff_mem, List.mem_map]
 exact ⟨fun h => ⟨x, h, rfl⟩, fun ⟨y, hy, e⟩ => bytes_ext e ▸ hy⟩
theorem isS_eq (T : List Tok) (s : PS) (xs : List ByteArray) : isS T (xs.map fun y => y.data.toList) s = ((decide ((tokA T s).k = 5) || decide ((tokA T s).k = 4)) && Lib.containsS xs (ofL (tokA T s).x)) := by
 rw [contains_list, ofL_list]
 rfl
set_option maxRecDepth 100000 in
set_option maxHeartbeats 8000000 in
theorem is_any {P : Nat} {src : ByteArray} {T : List Tok} {R : Nat → Prop} {s : PS} {w : World} (h : Par w P src T R s) (xs : List ByteArray) (b off n : Nat) (hn : n = xs.length) (hn1 : n ≤ 1000)
  (hx : ∀ j, j < n → w.cell? ⟨b, off + j, none⟩ = some (.string (xs.getD j ByteArray.empty))) :
  Calls Tryz.prog 62 #[.pointer (some ⟨P, 0, none⟩), .slice (some ⟨b, off, none⟩) n n] w fun e w' => e = .returned (.bool (isS T (xs.map fun y => y.data.toList) s)) ∧ Keeps (fun _ => False) w w' := by
 rw [isS_eq]
 have NC : Hid (Calls Tryz.prog 34 #[.pointer (some ⟨P, 0, none⟩)] w fun e w' => e = .returned (.agg #[.int .i64 ((tokA T s).k : Int), .string (ofL (tokA T s).x), .int .i64 ((tokA T s).p : Int)]) ∧ Keeps (fun _ => False) w w') := Lib.hid (now_any h)
 have CC : Hid (∀ w1, Keeps (fun _ => False) w w1 → Calls Tryz.prog 92 #[.slice (some ⟨b, off, none⟩) n n, .string (ofL (tokA T s).x)] w1 fun e w' => e = .returned (.bool (Lib.containsS xs (ofL (tokA T s).x))) ∧ w' = w1) := Lib.hid fun w1 k => by
  have h2 := Any.slices_Contains_string laysContains b off n n xs (ofL (tokA T s).x) w1 (by omega) (by omega) (fun j hj => (k.cell (cell_ltk (hx j (by omega))) (fun h => h)).trans (hx j (by omega)))
  rw [List.take_of_length_le (by omega)] at h2
  exact h2
 generalize Lib.containsS xs (ofL (tokA T s).x) = cb at CC ⊢
 have e5 : decide ((tokA T s).k = 5) = decide (((tokA T s).k : Int) = 5) := decide_eq_decide.2 (by omega)
 have e4 : decide ((tokA T s).k = 4) = decide (((tokA T s).k : Int) = 4) := decide_eq_decide.2 (by omega)
 rw [e5, e4]
 clear e5 e4
 generalize tokA T s = tk at NC CC ⊢
 obtain ⟨k, hk⟩ : ∃ k : Int, k = (tk.k : Int) := ⟨_, rfl⟩
 rw [← hk] at NC ⊢
 clear hk hx h hn
 have walk : ∀ r : Bool, ((k = 5 ∧ r = cb) ∨ (k ≠ 5 ∧ k = 4 ∧ r = cb) ∨ (k ≠ 5 ∧ k ≠ 4 ∧ r = false)) → Calls Tryz.prog 62 #[.pointer (some ⟨P, 0, none⟩), .slice (some ⟨b, off, none⟩) n n] w fun e w' => e = .returned (.bool r) ∧ Keeps (fun _ => False) w w' := by
  intro r hr
  have HRR := Lib.hid hr
  clear hr
  go_enter Tryz.func62, Tryz.ntmps62
  go_wp2_with fail
  refine NC.out.mono ?_
  rintro e w1 ⟨rfl, k1⟩
  have z := Loc.new (w := w1) (R := fun _ => False) (fun h => h) [.int .i64 k, .string (ofL tk.x), .int .i64 (tk.p : Int)] 77
  have K2 := Lib.hid (k1.alloc (.cells #[.int .i64 k, .string (ofL tk.x), .int .i64 (tk.p : Int)] 77))
  go_upto_region 2 with fail
  obtain ⟨X, hX⟩ : ∃ X, X = w1.heap.size := ⟨_, rfl⟩
  obtain ⟨w2, hw2⟩ : ∃ w2, w2 = w1.alloc (.cells #[.int .i64 k, .string (ofL tk.x), .int .i64 (tk.p : Int)] 77) := ⟨_, rfl⟩
  have z : Loc w2 (fun _ => False) X [.int .i64 k, .string (ofL tk.x), .int .i64 (tk.p : Int)] := by rw [hw2, hX]; exact z
  rw [← hX]
  rw [← hw2] at K2 ⊢
  have z0 := z.cells 0 _ rfl
  have z1 := z.cells 1 _ rfl
  clear k1 hw2 hX z NC
  have CD := Lib.hid (CC.out w2 K2.out)
  clear CC
  rcases HRR.out with ⟨rfl, rfl⟩ | ⟨h5, rfl, rfl⟩ | ⟨h5, h4, rfl⟩
  ·clear HRR
   go_wp2_with (go_at_call 92; refine CD.out.mono ?_; rintro e w' ⟨rfl, rfl⟩)
   go_ret
   exact ⟨rfl, K2.out⟩
  ·clear HRR h5
   go_wp2_with (go_at_call 92; refine CD.out.mono ?_; rintro e w' ⟨rfl, rfl⟩)
   go_ret
   exact ⟨rfl, K2.out⟩
  ·clear HRR
   have d5 : (k == 5) = false := by simpa using h5
   have d4 : (k == 4) = false := by simpa using h4
   go_wp2_with fail
   go_ret
   exact ⟨rfl, K2.out⟩
 by_cases h5 : k = 5
 ·rw [decide_eq_true h5]
  exact walk _ (.inl ⟨h5, by simp⟩)
 ·by_cases h4 : k = 4
  ·rw [decide_eq_false h5, decide_eq_true h4]
   exact walk _ (.inr (.inl ⟨h5, h4, by simp⟩))
  ·rw [decide_eq_false h5, decide_eq_false h4]
   exact walk _ (.inr (.inr ⟨h5, h4, by simp⟩))
end Go.Proofs.YtbhpnioggpgbhaaGreatDoor

namespace Go.Proofs.YtbhpnioggpgbhaaGreatDoor
open Go Go.RowKit Go.Shelf
set_option linter.unusedVariables false
set_option linter.unusedSimpArgs false
theorem ParX.more {w : World} {P : Nat} {src : ByteArray} {T : List Tok} {A : Option Addr} {cT : Nat} {R : Nat → Prop} {s : PS} {v : Value} {L : List NM} (h : ParX w P src T A cT R s v L) (hk : (tokA T s).k ≠ 0) : s.i < T.length - 1 := by
 have h1 := h.hi
 have h2 := h.ok.last
 rcases Nat.lt_or_ge s.i (T.length - 1) with h3 | h3
 ·exact h3
 ·exfalso
  have h4 : s.i = T.length - 1 := by omega
  apply hk
  unfold tokA
  rw [h4]
  exact h2
theorem Par.more {w : World} {P : Nat} {src : ByteArray} {T : List Tok} {R : Nat → Prop} {s : PS} (h : Par w P src T R s) (hk : (tokA T s).k ≠ 0) : s.i < T.length - 1 := by
 obtain ⟨A, cT, v, L, h⟩ := h
 exact h.more hk
theorem Par.post {w w' : World} {P : Nat} {src : ByteArray} {T : List Tok} {R : Nat → Prop} {s : PS} (h : Par w P src T R s) (k : Keeps (fun _ => False) w w') (r : Value) : Post P src T R w r s (.returned r) w' :=
 ⟨rfl, R, h.keep k, (Fr.refl R w).keeps k⟩
theorem Par.setI {w : World} {P : Nat} {src : ByteArray} {T : List Tok} {R : Nat → Prop} {s : PS} (h : Par w P src T R s) (i : Nat) (hi : i < T.length) : Par (w.setCell ⟨P, 2, none⟩ (.int .i64 (i : Int))) P src T R { s with i := i } ∧ Fr R w R (w.setCell ⟨P, 2, none⟩ (.int .i64 (i : Int))) := by
 obtain ⟨A, cT, v, L, h⟩ := h
 have h2 := h.set (s' := { s with i := i }) 2 (i : Int) (.inl ⟨rfl, rfl, rfl, rfl, rfl⟩) rfl hi
 exact ⟨⟨A, cT, v, L, h2.1⟩, h2.2⟩
theorem Par.setPl {w : World} {P : Nat} {src : ByteArray} {T : List Tok} {R : Nat → Prop} {s : PS} (h : Par w P src T R s) (i : Nat) : Par (w.setCell ⟨P, 3, none⟩ (.int .i64 (i : Int))) P src T R { s with pl := i } ∧ Fr R w R (w.setCell ⟨P, 3, none⟩ (.int .i64 (i : Int))) := by
 obtain ⟨A, cT, v, L, h⟩ := h
 have h2 := h.set (s' := { s with pl := i }) 3 (i : Int) (.inr (.inl ⟨rfl, rfl, rfl, rfl, rfl⟩)) rfl h.hi
 exact ⟨⟨A, cT, v, L, h2.1⟩, h2.2⟩
theorem Par.setEr {w : World} {P : Nat} {src : ByteArray} {T : List Tok} {R : Nat → Prop} {s : PS} (h : Par w P src T R s) (i : Nat) : Par (w.setCell ⟨P, 4, none⟩ (.int .i64 (i : Int))) P src T R { s with er := i } ∧ Fr R w R (w.setCell ⟨P, 4, none⟩ (.int .i64 (i : Int))) := by
 obtain ⟨A, cT, v, L, h⟩ := h
 have h2 := h.set (s' := { s with er := i }) 4 (i : Int) (.inr (.inr (.inl ⟨rfl, rfl, rfl, rfl, rfl⟩))) rfl h.hi
 exact ⟨⟨A, cT, v, L, h2.1⟩, h2.2⟩
theorem Par.setDp {w : World} {P : Nat} {src : ByteArray} {T : List Tok} {R : Nat → Prop} {s : PS} (h : Par w P src T R s) (d : Int) : Par (w.setCell ⟨P, 6, none⟩ (.int .i64 d)) P src T R { s with dp := d } ∧ Fr R w R (w.setCell ⟨P, 6, none⟩ (.int .i64 d)) := by
 obtain ⟨A, cT, v, L, h⟩ := h
 have h2 := h.set (s' := { s with dp := d }) 6 d (.inr (.inr (.inr ⟨rfl, rfl, rfl, rfl, rfl⟩))) rfl h.hi
 exact ⟨⟨A, cT, v, L, h2.1⟩, h2.2⟩
/-- What a walk reads of a parser in memory. -/
structure See (w : World) (P : Nat) (src : ByteArray) (i pl er : Nat) (dp : Int) (n : Nat) : Prop where
 c0 : w.cell? ⟨P, 0, none⟩ = some (.string src)
 c1 : ∃ A cT, w.cell? ⟨P, 1, none⟩ = some (.slice A n cT)
 c2 : w.cell? ⟨P, 2, none⟩ = some (.int .i64 (i : Int))
 c3 : w.cell? ⟨P, 3, none⟩ = some (.int .i64 (pl : Int))
 c4 : w.cell? ⟨P, 4, none⟩ = some (.int .i64 (er : Int))
 c6 : w.cell? ⟨P, 6, none⟩ = some (.int .i64 dp)
 fz : ∀ k, w.frozen? ⟨P, k, none⟩ = false
theorem Par.see {w : World} {P : Nat} {src : ByteArray} {T : List Tok} {R : Nat → Prop} {s : PS} (h : Par w P src T R s) : See w P src s.i s.pl s.er s.dp T.length := by
 obtain ⟨A, cT, v, L, h⟩ := h
 exact ⟨h.c0, ⟨A, cT, h.c1⟩, h.c2, h.c3, h.c4, h.c6, h.fz⟩
theorem Par.hi {w : World} {P : Nat} {src : ByteArray} {T : List Tok} {R : Nat → Prop} {s : PS} (h : Par w P src T R s) : s.i < T.length := by
 obtain ⟨A, cT, v, L, h⟩ := h
 exact h.hi
theorem Par.ok {w : World} {P : Nat} {src : ByteArray} {T : List Tok} {R : Nat → Prop} {s : PS} (h : Par w P src T R s) : TokOK T := by
 obtain ⟨A, cT, v, L, h⟩ := h
 exact h.ok
set_option maxRecDepth 100000 in
set_option maxHeartbeats 8000000 in
theorem next_any {P : Nat} {src : ByteArray} {T : List Tok} {R : Nat → Prop} {s : PS} {w : World} (h : Par w P src T R s) : Calls Tryz.prog 64 #[.pointer (some ⟨P, 0, none⟩)] w (Post P src T R w (.tuple #[]) (nextS T s)) := by
 have H := Lib.hid h
 have sw := h.see
 have hi := h.hi
 have hle := h.ok.le
 obtain ⟨A, cT, c1⟩ := sw.c1
 have c2 := sw.c2
 obtain ⟨i, hI⟩ : ∃ i, i = s.i := ⟨_, rfl⟩
 obtain ⟨n, hn⟩ : ∃ n, n = T.length := ⟨_, rfl⟩
 rw [← hI] at c2 hi
 rw [← hn] at c1 hi hle
 have n1 : IntKind.i64.wrap ((n : Int) - 1) = (n : Int) - 1 := IntWalk.i64_in _ (by omega)
 by_cases hlt : i < n - 1
 ·have hE : nextS T s = { s with i := i + 1 } := by unfold nextS; rw [← hI, ← hn, if_pos hlt]
  have i1 : IntKind.i64.wrap ((i : Int) + 1) = (i : Int) + 1 := IntWalk.i64_in _ (by omega)
  have hltI : (i : Int) < (n : Int) - 1 := by omega
  have hd : decide ((i : Int) < (n : Int) - 1) = true := decide_eq_true hltI
  have hfin : Hid (∀ w1, Keeps (fun _ => False) w w1 → Post P src T R w (.tuple #[]) (nextS T s) (.returned (.tuple #[])) (w1.setCell ⟨P, 2, none⟩ (.int .i64 ((i : Int) + 1)))) := Lib.hid fun w1 k => by
   rw [hE]
   have h1 := (H.out.keep k).setI (i + 1) (by rw [← hn]; omega)
   rw [show ((i + 1 : Nat) : Int) = (i : Int) + 1 by omega] at h1
   exact ⟨rfl, R, h1.1, (((Fr.refl R w).keeps k).trans h1.2)⟩
  have SEE : Hid (∀ w1, Keeps (fun _ => False) w w1 → w1.cell? ⟨P, 2, none⟩ = some (.int .i64 (i : Int)) ∧ w1.frozen? ⟨P, 2, none⟩ = false) := Lib.hid fun w1 k => by
   have := (H.out.keep k).see
   rw [hI]
   exact ⟨this.c2, this.fz 2⟩
  clear hE hI hn H hi sw h
  go_enter Tryz.func64, Tryz.ntmps64
  go_wp2_with fail
  go_quiet (fail)
  have kd := drew_keeps w nq
  generalize w.drewN nq = w1 at *
  clear c1 c2
  obtain ⟨c2, f2⟩ := SEE.out w1 kd
  go_wp2
  exact bodyPost_end (v := .tuple #[]) (by simp [results, Tryz.results64, go_sem]) rfl (hfin.out w1 kd)
 ·have hE : nextS T s = s := by unfold nextS; rw [← hI, ← hn, if_neg hlt]
  have hltI : ¬ (i : Int) < (n : Int) - 1 := by omega
  have hd : decide ((i : Int) < (n : Int) - 1) = false := decide_eq_false hltI
  have hfin : Hid (∀ w1, Keeps (fun _ => False) w w1 → Post P src T R w (.tuple #[]) (nextS T s) (.returned (.tuple #[])) w1) := Lib.hid fun w1 k => by
   rw [hE]
   exact H.out.post k _
  clear hE hI hn H hi sw h
  go_enter Tryz.func64, Tryz.ntmps64
  go_wp2_with fail
  go_quiet (fail)
  have kd := drew_keeps w nq
  generalize w.drewN nq = w1 at *
  clear c1 c2
  go_wp2
  exact bodyPost_end (v := .tuple #[]) (by simp [results, Tryz.results64, go_sem]) rfl (hfin.out w1 kd)
set_option maxRecDepth 100000 in
set_option maxHeartbeats 8000000 in
theorem fail_any {P : Nat} {src : ByteArray} {T : List Tok} {R : Nat → Prop} {s : PS} {w : World} (h : Par w P src T R s) (e : Nat) : Calls Tryz.prog 91 #[.pointer (some ⟨P, 0, none⟩), .int .i64 (e : Int)] w (Post P src T R w (.tuple #[]) (failS T e s)) := by
 have H := Lib.hid h
 have sw := h.see
 have hle := h.ok.le
 have hne := h.ok.ne
 have c4 := sw.c4
 obtain ⟨n, hn⟩ : ∃ n, n = T.length := ⟨_, rfl⟩
 rw [← hn] at hle hne
 by_cases he : s.er = 0
 ·have hE : failS T e s = { s with pl := (tokA T s).p, er := e, i := n - 1 } := by unfold failS; rw [if_pos he, ← hn]
  have NC : Hid (Calls Tryz.prog 34 #[.pointer (some ⟨P, 0, none⟩)] w fun e w' => e = .returned (.agg #[.int .i64 ((tokA T s).k : Int), .string (ofL (tokA T s).x), .int .i64 ((tokA T s).p : Int)]) ∧ Keeps (fun _ => False) w w') := Lib.hid (now_any h)
  have n1 : IntKind.i64.wrap ((n : Int) - 1) = (n : Int) - 1 := IntWalk.i64_in _ (by omega)
  obtain ⟨tk, htk⟩ : ∃ tk, tk = tokA T s := ⟨_, rfl⟩
  rw [← htk] at NC hE
  have hfin : Hid (∀ w1, Keeps (fun _ => False) w w1 → Post P src T R w (.tuple #[]) (failS T e s) (.returned (.tuple #[])) (((w1.setCell ⟨P, 3, none⟩ (.int .i64 (tk.p : Int))).setCell ⟨P, 4, none⟩ (.int .i64 (e : Int))).setCell ⟨P, 2, none⟩ (.int .i64 ((n : Int) - 1)))) := Lib.hid fun w1 k => by
   rw [hE]
   have h1 := (H.out.keep k).setPl tk.p
   have h2 := h1.1.setEr e
   have h3 := h2.1.setI (n - 1) (by rw [← hn]; omega)
   rw [show ((n - 1 : Nat) : Int) = (n : Int) - 1 by omega] at h3
   exact ⟨rfl, R, h3.1, ((((Fr.refl R w).keeps k).trans h1.2).trans h2.2).trans h3.2⟩
  have SEE : Hid (∀ w1, Keeps (fun _ => False) w w1 → ∃ A cT, w1.cell? ⟨P, 1, none⟩ = some (.slice A n cT) ∧ w1.cell? ⟨P, 2, none⟩ = some (.int .i64 (s.i : Int)) ∧ w1.cell? ⟨P, 3, none⟩ = some (.int .i64 (s.pl : Int)) ∧ w1.cell? ⟨P, 4, none⟩ = some (.int .i64 (s.er : Int)) ∧ w1.frozen? ⟨P, 2, none⟩ = false ∧ w1.frozen? ⟨P, 3, none⟩ = false ∧ w1.frozen? ⟨P, 4, none⟩ = false) := Lib.hid fun w1 k => by
   have := (H.out.keep k).see
   rw [hn]
   obtain ⟨A, cT, c1⟩ := this.c1
   exact ⟨A, cT, c1, this.c2, this.c3, this.c4, this.fz 2, this.fz 3, this.fz 4⟩
  rw [he] at c4
  have F2 : ∀ w, Sem.run Tryz.prog (Instr.field 77 (.agg #[.int .i64 (tk.k : Int), .string (ofL tk.x), .int .i64 (tk.p : Int)]) 2) w = .ok (.int .i64 (tk.p : Int)) w := fun w => tok_field2 _ _ _ w
  clear hE H sw h htk hn he
  go_enter Tryz.func91, Tryz.ntmps91
  go_wp2_with fail
  refine NC.out.mono ?_
  rintro e w1 ⟨rfl, k1⟩
  obtain ⟨A, cT, d1, d2, d3, d4, f2, f3, f4⟩ := SEE.out w1 k1
  have HF := Lib.hid (hfin.out w1 k1)
  clear k1 c4 SEE hfin NC
  go_wp2
  exact bodyPost_end (v := .tuple #[]) (by simp [results, Tryz.results91, go_sem]) rfl HF.out
 ·have hE : failS T e s = s := by unfold failS; rw [if_neg he]
  have heI : ¬ (s.er : Int) = 0 := by omega
  have hd : ((s.er : Int) == 0) = false := by simpa using heI
  have hfin : Hid (Post P src T R w (.tuple #[]) (failS T e s) (.returned (.tuple #[])) w) := Lib.hid (by rw [hE]; exact H.out.post (Keeps.refl _ _) _)
  generalize s.er = er at c4 heI hd
  clear hE H sw h hn he
  go_enter Tryz.func91, Tryz.ntmps91
  go_wp2_with fail
  exact bodyPost_end (v := .tuple #[]) (by simp [results, Tryz.results91, go_sem]) rfl hfin.out
end Go.Proofs.YtbhpnioggpgbhaaGreatDoor

namespace Go.Proofs.YtbhpnioggpgbhaaGreatDoor
open Go Go.RowKit Go.Shelf
set_option linter.unusedVariables false
set_option linter.unusedSimpArgs false
theorem is_one {P : Nat} {src : ByteArray} {T : List Tok} {R : Nat → Prop} {s : PS} {w : World} (h : Par w P src T R s) (x : ByteArray) (t : TypeId) :
  Calls Tryz.prog 62 #[.pointer (some ⟨P, 0, none⟩), .slice (some ⟨w.heap.size, 0, none⟩) 1 1] (w.alloc (.cells #[.string x] t)) fun e w' => e = .returned (.bool (isS T [x.data.toList] s)) ∧ Keeps (fun _ => False) w w' :=
 (is_any (h.keep (Keeps.one w _)) [x] w.heap.size 0 1 rfl (by omega) (fun j hj => by
  have : j = 0 := by omega
  subst this
  exact (World.cell?_alloc_mark w #[.string x] t (0, 0) 0))).mono fun e w' ⟨h1, k⟩ => ⟨h1, (Keeps.one w _).trans k (fun _ _ h => h)⟩
set_option maxRecDepth 100000 in
set_option maxHeartbeats 8000000 in
theorem want_any {P : Nat} {src : ByteArray} {T : List Tok} {R : Nat → Prop} {s : PS} {w : World} (h : Par w P src T R s) (x : ByteArray) : Calls Tryz.prog 60 #[.pointer (some ⟨P, 0, none⟩), .string x] w (Post P src T R w (.tuple #[]) (wantS T x.data.toList s)) := by
 have H := Lib.hid h
 have IC := is_one h x 9
 cases hb : isS T [x.data.toList] s with
 | true =>
  have hE : wantS T x.data.toList s = nextS T s := by unfold wantS; rw [hb, if_pos rfl]
  rw [hE]
  rw [hb] at IC
  have IC := Lib.hid IC
  clear hE hb h
  go_enter Tryz.func60, Tryz.ntmps60
  go_wp2_with fail
  refine IC.out.mono ?_
  rintro e w1 ⟨rfl, k1⟩
  have NX := Lib.hid (next_any (H.out.keep k1))
  clear IC
  go_wp2_with fail
  refine NX.out.mono ?_
  rintro e w2 ⟨rfl, R', hp, hf⟩
  have HF : Hid (Post P src T R w (.tuple #[]) (nextS T s) (.returned (.tuple #[])) w2) := Lib.hid ⟨rfl, R', hp, ((Fr.refl R w).keeps k1).trans hf⟩
  clear hp hf NX
  go_wp2_with fail
  exact bodyPost_end (v := .tuple #[]) (by simp [results, Tryz.results60, go_sem]) rfl HF.out
 | false =>
  have hE : wantS T x.data.toList s = failS T 20 s := by unfold wantS; rw [hb]; rfl
  rw [hE]
  rw [hb] at IC
  have IC := Lib.hid IC
  clear hE hb h
  go_enter Tryz.func60, Tryz.ntmps60
  go_wp2_with fail
  refine IC.out.mono ?_
  rintro e w1 ⟨rfl, k1⟩
  have NX := Lib.hid (fail_any (H.out.keep k1) 20)
  clear IC
  go_wp2_with fail
  refine NX.out.mono ?_
  rintro e w2 ⟨rfl, R', hp, hf⟩
  have HF : Hid (Post P src T R w (.tuple #[]) (failS T 20 s) (.returned (.tuple #[])) w2) := Lib.hid ⟨rfl, R', hp, ((Fr.refl R w).keeps k1).trans hf⟩
  clear hp hf NX
  go_wp2_with fail
  exact bodyPost_end (v := .tuple #[]) (by simp [results, Tryz.results60, go_sem]) rfl HF.out
set_option maxRecDepth 100000 in
set_option maxHeartbeats 8000000 in
theorem pname_any {P : Nat} {src : ByteArray} {T : List Tok} {R : Nat → Prop} {s : PS} {w : World} (h : Par w P src T R s) : Calls Tryz.prog 61 #[.pointer (some ⟨P, 0, none⟩)] w (Post P src T R w (.string (ofL (nameX T s))) (nameS T s)) := by
 have H := Lib.hid h
 have NC : Hid (Calls Tryz.prog 34 #[.pointer (some ⟨P, 0, none⟩)] w fun e w' => e = .returned (.agg #[.int .i64 ((tokA T s).k : Int), .string (ofL (tokA T s).x), .int .i64 ((tokA T s).p : Int)]) ∧ Keeps (fun _ => False) w w') := Lib.hid (now_any h)
 by_cases hk : (tokA T s).k = 3
 ·have hE : nameS T s = nextS T s := by unfold nameS; rw [if_pos hk]
  have hX : nameX T s = (tokA T s).x := by unfold nameX; rw [if_pos hk]
  rw [hE, hX]
  clear hE hX
  generalize tokA T s = tk at NC hk ⊢
  rw [show (tk.k : Int) = 3 by omega] at NC
  obtain ⟨k, hk3⟩ : ∃ k : Int, k = 3 := ⟨_, rfl⟩
  rw [← hk3] at NC
  have hne : (k != 3) = false := by rw [hk3]; rfl
  clear hk h hk3
  go_enter Tryz.func61, Tryz.ntmps61
  go_wp2_with fail
  refine NC.out.mono ?_
  rintro e w1 ⟨rfl, k1⟩
  have z := Loc.new (w := w1) (R := R) (H.out.keep k1).new [.int .i64 k, .string (ofL tk.x), .int .i64 (tk.p : Int)] 77
  have K2 := Lib.hid (k1.alloc (.cells #[.int .i64 k, .string (ofL tk.x), .int .i64 (tk.p : Int)] 77))
  go_upto_region 2 with fail
  obtain ⟨X, hX⟩ : ∃ X, X = w1.heap.size := ⟨_, rfl⟩
  obtain ⟨w2, hw2⟩ : ∃ w2, w2 = w1.alloc (.cells #[.int .i64 k, .string (ofL tk.x), .int .i64 (tk.p : Int)] 77) := ⟨_, rfl⟩
  have z : Loc w2 R X [.int .i64 k, .string (ofL tk.x), .int .i64 (tk.p : Int)] := by rw [hw2, hX]; exact z
  rw [← hX]
  rw [← hw2] at K2 ⊢
  have Z := Lib.hid z
  have z0 := z.cells 0 _ rfl
  clear k1 hw2 hX z NC
  have NX := Lib.hid (next_any (H.out.keep K2.out))
  go_wp2_with fail
  refine NX.out.mono ?_
  rintro e w3 ⟨rfl, R', hp, hf⟩
  have z1 := (Z.out.keep hf).cells 1 _ rfl
  have HF : Hid (Post P src T R w (.string (ofL tk.x)) (nextS T s) (.returned (.string (ofL tk.x))) w3) := Lib.hid ⟨rfl, R', hp, ((Fr.refl R w).keeps K2.out).trans hf⟩
  clear hp hf NX z0
  go_wp2_with fail
  go_ret
  exact HF.out
 ·have hE : nameS T s = failS T 20 s := by unfold nameS; rw [if_neg hk]
  have hX : nameX T s = [] := by unfold nameX; rw [if_neg hk]
  rw [hE, hX]
  clear hE hX
  generalize tokA T s = tk at NC hk ⊢
  obtain ⟨k, hk3⟩ : ∃ k : Int, k = tk.k := ⟨_, rfl⟩
  rw [← hk3] at NC
  have hne : (k != 3) = true := by rw [hk3]; simp; omega
  clear hk h hk3
  go_enter Tryz.func61, Tryz.ntmps61
  go_wp2_with fail
  refine NC.out.mono ?_
  rintro e w1 ⟨rfl, k1⟩
  have z := Loc.new (w := w1) (R := R) (H.out.keep k1).new [.int .i64 k, .string (ofL tk.x), .int .i64 (tk.p : Int)] 77
  have K2 := Lib.hid (k1.alloc (.cells #[.int .i64 k, .string (ofL tk.x), .int .i64 (tk.p : Int)] 77))
  go_upto_region 2 with fail
  obtain ⟨X, hX⟩ : ∃ X, X = w1.heap.size := ⟨_, rfl⟩
  obtain ⟨w2, hw2⟩ : ∃ w2, w2 = w1.alloc (.cells #[.int .i64 k, .string (ofL tk.x), .int .i64 (tk.p : Int)] 77) := ⟨_, rfl⟩
  have z : Loc w2 R X [.int .i64 k, .string (ofL tk.x), .int .i64 (tk.p : Int)] := by rw [hw2, hX]; exact z
  rw [← hX]
  rw [← hw2] at K2 ⊢
  have Z := Lib.hid z
  have z0 := z.cells 0 _ rfl
  clear k1 hw2 hX z NC
  have NX := Lib.hid (fail_any (H.out.keep K2.out) 20)
  go_wp2_with fail
  refine NX.out.mono ?_
  rintro e w3 ⟨rfl, R', hp, hf⟩
  have HF : Hid (Post P src T R w (.string (ofL [])) (failS T 20 s) (.returned (.string (ofL []))) w3) := Lib.hid ⟨rfl, R', hp, ((Fr.refl R w).keeps K2.out).trans hf⟩
  clear hp hf NX z0
  go_wp2_with fail
  go_ret
  exact HF.out
end Go.Proofs.YtbhpnioggpgbhaaGreatDoor
