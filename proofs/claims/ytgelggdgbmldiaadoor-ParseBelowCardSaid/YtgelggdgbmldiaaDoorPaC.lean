/-
  Layer 2: the cursor's functions. Written by an AI agent.
-/
import Derived.Test.YtgelggdgbmldiaaDoorPaM
import Derived.Shelf.Slices.Turned
import Derived.Lib.SlicesS
namespace Go.Proofs.YtgelggdgbmldiaaDoor
open Go Go.RowKit Go.Shelf
set_option linter.unusedVariables false
set_option linter.unusedSimpArgs false

theorem results_cell1 {fn : Func} {p : Tmp} {ty : TypeId} (h : fn.results = #[.cell p ty]) (tmps : Array Value) (P : Program) (w : World) :
    (results fn tmps).run P w = ((asAddr (tmps.getD p undef)).run P w).andThen fun a w₁ => (loadVar ty a).run P w₁ := by
  simp only [results, h]
  simp [Sem.run_bind, Result.andThen]

theorem tok_field0 (k : Int) (x : ByteArray) (p : Int) (w : World) : Sem.run Tryd.prog (Instr.field 54 (.agg #[.int .i64 k, .string x, .int .i64 p]) 0) w = .ok (.int .i64 k) w := by kernel_rfl
theorem tok_field1 (k : Int) (x : ByteArray) (p : Int) (w : World) : Sem.run Tryd.prog (Instr.field 54 (.agg #[.int .i64 k, .string x, .int .i64 p]) 1) w = .ok (.string x) w := by kernel_rfl
theorem tok_field2 (k : Int) (x : ByteArray) (p : Int) (w : World) : Sem.run Tryd.prog (Instr.field 54 (.agg #[.int .i64 k, .string x, .int .i64 p]) 2) w = .ok (.int .i64 p) w := by kernel_rfl
/-- The token that is next, as a value. -/
def tokV (T : List Tok) (s : PS) : Value := .agg #[.int .i64 ((tokA T s).k : Int), .string (ofL (tokA T s).x), .int .i64 ((tokA T s).p : Int)]
set_option maxRecDepth 100000 in
set_option maxHeartbeats 8000000 in
theorem now_any {P : Nat} {src : ByteArray} {T : List Tok} {R : Nat → Prop} {s : PS} {w : World} (h : Par w P src T R s) :
    Calls Tryd.prog 25 #[.pointer (some ⟨P, 0, none⟩)] w fun e w' => e = .returned (tokV T s) ∧ Keeps (fun _ => False) w w' := by
  obtain ⟨A, cT, v, L, h⟩ := h
  have c1 := h.c1
  have c2 := h.c2
  have hi := h.hi
  have hle := h.ok.le
  obtain ⟨b, off, rfl, hc⟩ := h.tok (by omega)
  obtain ⟨t0, t1, t2⟩ := hc s.i hi
  obtain ⟨i, hI⟩ : ∃ i, i = s.i := ⟨_, rfl⟩
  obtain ⟨n, hn⟩ : ∃ n, n = T.length := ⟨_, rfl⟩
  have hv : tokV T s = .agg #[.int .i64 ((T.getD s.i default).k : Int), .string (ofL (T.getD s.i default).x), .int .i64 ((T.getD s.i default).p : Int)] := rfl
  rw [hv, ← hI]
  rw [← hI] at c2 hi t0 t1 t2
  rw [← hn] at c1 hi hle
  generalize ((T.getD i default).k : Int) = tk at t0 ⊢
  generalize ofL (T.getD i default).x = tx at t1 ⊢
  generalize ((T.getD i default).p : Int) = tp at t2 ⊢
  have h0 : (0 : Int) ≤ (i : Int) := by omega
  have h1 : (i : Int) < (n : Int) := by omega
  have hP := h.lo
  have hb := cell_ltk t0
  clear hv h hc hI hn
  go_enter Tryd.func25, Tryd.ntmps25
  go_wp2_with fail
  have k1 := Keeps.one w (.cells #[.int .i64 0, .string { data := #[] }, .int .i64 0] 54)
  have z := Loc.new (w := w) (R := fun _ => False) (fun h => h) [.int .i64 0, .string { data := #[] }, .int .i64 0] 54
  obtain ⟨X, hX⟩ : ∃ X, X = w.heap.size := ⟨_, rfl⟩
  rw [← hX] at z ⊢
  obtain ⟨w1, hw1⟩ : ∃ w1, w1 = w.alloc (.cells #[.int .i64 0, .string { data := #[] }, .int .i64 0] 54) := ⟨_, rfl⟩
  have z : Loc w1 (fun _ => False) X [.int .i64 0, .string { data := #[] }, .int .i64 0] := by rw [hw1]; exact z
  rw [← hw1] at k1 ⊢
  have hXP : P ≠ X := by omega
  have hXb : b ≠ X := by omega
  have z0 := z.cells 0 _ rfl
  have z1 := z.cells 1 _ rfl
  have z2 := z.cells 2 _ rfl
  have y0 := z.fz 0
  have y1 := z.fz 1
  have y2 := z.fz 2
  have c1 := (k1.cell hP (fun h => h)).trans c1
  have c2 := (k1.cell hP (fun h => h)).trans c2
  have t0 := (k1.cell hb (fun h => h)).trans t0
  have t1 := (k1.cell hb (fun h => h)).trans t1
  have t2 := (k1.cell hb (fun h => h)).trans t2
  have hfin : Hid (∀ v0 v1 v2 : Value, Keeps (fun _ => False) w (((w1.setCell ⟨X, 0, none⟩ v0).setCell ⟨X, 1, none⟩ v1).setCell ⟨X, 2, none⟩ v2).drew) := Lib.hid fun v0 v1 v2 => by
    have hx : ∀ k : Nat, (⟨X, k, none⟩ : Addr).block < w.heap.size → False := fun k (h : X < w.heap.size) => by omega
    exact (((k1.setCell (p := ⟨X, 0, none⟩) (fun h => hx 0 h) v0).setCell (p := ⟨X, 1, none⟩) (fun h => hx 1 h) v1).setCell (p := ⟨X, 2, none⟩) (fun h => hx 2 h) v2).drew
  clear z k1 hw1 hX hP hb
  go_region
  all_goals (go_wp2; (try simp only [Exit.inBlock, Exit.then]); refine bodyPost_ret (v := .agg #[.int .i64 tk, .string tx, .int .i64 tp]) ?_ rfl ?_)
  all_goals first | (rw [results_cell1 rfl]; go_simp; done) | skip
  all_goals exact ⟨rfl, hfin.out _ _ _⟩
end Go.Proofs.YtgelggdgbmldiaaDoor
