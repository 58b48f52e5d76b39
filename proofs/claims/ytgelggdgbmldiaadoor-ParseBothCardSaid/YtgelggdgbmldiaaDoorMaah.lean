/-
  Layer 2: what the cursor looks for. Written by an AI agent.
  Layer 2: how the cursor goes on, and fails. Written by an AI agent.
  Layer 2: calls, want, name. Written by an AI agent.
  Layer 2: a node is put. Written by an AI agent.
-/
import Derived.Test.YtgelggdgbmldiaaDoorMaag
import Derived.Deep.RegionHeld
namespace Go.Proofs.YtgelggdgbmldiaaDoor
open Go Go.RowKit Go.Shelf
set_option linter.unusedVariables false
set_option linter.unusedSimpArgs false

shelf_lay Lays.n110 Nm 110 at Tryd as laysContains

theorem list_beq (a b : ByteArray) : decide (a = b) = decide (a.data.toList = b.data.toList) := by
  by_cases h : a = b
  · rw [h]; simp
  · rw [decide_eq_false h, decide_eq_false (fun e => h (bytes_ext e))]
theorem contains_list (xs : List ByteArray) (x : ByteArray) : Lib.containsS xs x = (xs.map fun y => y.data.toList).contains x.data.toList := by
  rw [Bool.eq_iff_iff, Lib.containsS_iff, List.contains_iff_mem, List.mem_map]
  exact ⟨fun h => ⟨x, h, rfl⟩, fun ⟨y, hy, e⟩ => bytes_ext e ▸ hy⟩
theorem isS_eq (T : List Tok) (s : PS) (xs : List ByteArray) : isS T (xs.map fun y => y.data.toList) s = ((decide ((tokA T s).k = 5) || decide ((tokA T s).k = 4)) && Lib.containsS xs (ofL (tokA T s).x)) := by
  rw [contains_list, ofL_list]
  rfl
set_option maxRecDepth 100000 in
set_option maxHeartbeats 8000000 in
theorem is_any {P : Nat} {src : ByteArray} {T : List Tok} {R : Nat → Prop} {s : PS} {w : World} (h : Par w P src T R s) (xs : List ByteArray) (b off n : Nat) (hn : n = xs.length) (hn1 : n ≤ 1000)
    (hx : ∀ j, j < n → w.cell? ⟨b, off + j, none⟩ = some (.string (xs.getD j ByteArray.empty))) :
    Calls Tryd.prog 51 #[.pointer (some ⟨P, 0, none⟩), .slice (some ⟨b, off, none⟩) n n] w fun e w' => e = .returned (.bool (isS T (xs.map fun y => y.data.toList) s)) ∧ Keeps (fun _ => False) w w' := by
  rw [isS_eq]
  have NC : Hid (Calls Tryd.prog 25 #[.pointer (some ⟨P, 0, none⟩)] w fun e w' => e = .returned (.agg #[.int .i64 ((tokA T s).k : Int), .string (ofL (tokA T s).x), .int .i64 ((tokA T s).p : Int)]) ∧ Keeps (fun _ => False) w w') := Lib.hid (now_any h)
  have CC : Hid (∀ w1, Keeps (fun _ => False) w w1 → Calls Tryd.prog 80 #[.slice (some ⟨b, off, none⟩) n n, .string (ofL (tokA T s).x)] w1 fun e w' => e = .returned (.bool (Lib.containsS xs (ofL (tokA T s).x))) ∧ w' = w1) := Lib.hid fun w1 k => by
    have h2 := Any.slices_Contains_string laysContains b off n n xs (ofL (tokA T s).x) w1 (by omega) (by omega) (fun j hj => (k.cell (cell_ltk (hx j (by omega))) (fun h => h)).trans (hx j (by omega)))
    rw [List.take_of_length_le (by omega)] at h2
    exact h2
  generalize Lib.containsS xs (ofL (tokA T s).x) = cb at CC ⊢
  have e5 : decide ((tokA T s).k = 5) = decide (((tokA T s).k : Int) = 5) := decide_eq_decide.2 (by omega)
  have e4 : decide ((tokA T s).k = 4) = decide (((tokA T s).k : Int) = 4) := decide_eq_decide.2 (by omega)
  rw [e5, e4]
  clear e5 e4
  generalize tokA T s = tk at NC CC ⊢
  obtain ⟨k, hk⟩ : ∃ k : Int, k = (tk.k : Int) := ⟨_, rfl⟩
  rw [← hk] at NC ⊢
  clear hk hx h hn
  have walk : ∀ r : Bool, ((k = 5 ∧ r = cb) ∨ (k ≠ 5 ∧ k = 4 ∧ r = cb) ∨ (k ≠ 5 ∧ k ≠ 4 ∧ r = false)) → Calls Tryd.prog 51 #[.pointer (some ⟨P, 0, none⟩), .slice (some ⟨b, off, none⟩) n n] w fun e w' => e = .returned (.bool r) ∧ Keeps (fun _ => False) w w' := by
    intro r hr
    have HRR := Lib.hid hr
    clear hr
    go_enter Tryd.func51, Tryd.ntmps51
    go_wp2_with fail
    refine NC.out.mono ?_
    rintro e w1 ⟨rfl, k1⟩
    have z := Loc.new (w := w1) (R := fun _ => False) (fun h => h) [.int .i64 k, .string (ofL tk.x), .int .i64 (tk.p : Int)] 54
    have K2 := Lib.hid (k1.alloc (.cells #[.int .i64 k, .string (ofL tk.x), .int .i64 (tk.p : Int)] 54))
    go_upto_region 2 with fail
    obtain ⟨X, hX⟩ : ∃ X, X = w1.heap.size := ⟨_, rfl⟩
    obtain ⟨w2, hw2⟩ : ∃ w2, w2 = w1.alloc (.cells #[.int .i64 k, .string (ofL tk.x), .int .i64 (tk.p : Int)] 54) := ⟨_, rfl⟩
    have z : Loc w2 (fun _ => False) X [.int .i64 k, .string (ofL tk.x), .int .i64 (tk.p : Int)] := by rw [hw2, hX]; exact z
    rw [← hX]
    rw [← hw2] at K2 ⊢
    have z0 := z.cells 0 _ rfl
    have z1 := z.cells 1 _ rfl
    clear k1 hw2 hX z NC
    have CD := Lib.hid (CC.out w2 K2.out)
    clear CC
    rcases HRR.out with ⟨rfl, rfl⟩ | ⟨h5, rfl, rfl⟩ | ⟨h5, h4, rfl⟩
    · clear HRR
      go_wp2_with (go_at_call 80; refine CD.out.mono ?_; rintro e w' ⟨rfl, rfl⟩)
      go_ret
      exact ⟨rfl, K2.out⟩
    · clear HRR h5
      go_wp2_with (go_at_call 80; refine CD.out.mono ?_; rintro e w' ⟨rfl, rfl⟩)
      go_ret
      exact ⟨rfl, K2.out⟩
    · clear HRR
      have d5 : (k == 5) = false := by simpa using h5
      have d4 : (k == 4) = false := by simpa using h4
      go_wp2_with fail
      go_ret
      exact ⟨rfl, K2.out⟩
  by_cases h5 : k = 5
  · rw [decide_eq_true h5]
    exact walk _ (.inl ⟨h5, by simp⟩)
  · by_cases h4 : k = 4
    · rw [decide_eq_false h5, decide_eq_true h4]
      exact walk _ (.inr (.inl ⟨h5, h4, by simp⟩))
    · rw [decide_eq_false h5, decide_eq_false h4]
      exact walk _ (.inr (.inr ⟨h5, h4, by simp⟩))
end Go.Proofs.YtgelggdgbmldiaaDoor

namespace Go.Proofs.YtgelggdgbmldiaaDoor
open Go Go.RowKit Go.Shelf
set_option linter.unusedVariables false
set_option linter.unusedSimpArgs false

theorem ParX.more {w : World} {P : Nat} {src : ByteArray} {T : List Tok} {A : Option Addr} {cT : Nat} {R : Nat → Prop} {s : PS} {v : Value} {L : List NM} (h : ParX w P src T A cT R s v L) (hk : (tokA T s).k ≠ 0) : s.i < T.length - 1 := by
  have h1 := h.hi
  have h2 := h.ok.last
  rcases Nat.lt_or_ge s.i (T.length - 1) with h3 | h3
  · exact h3
  · exfalso
    have h4 : s.i = T.length - 1 := by omega
    apply hk
    unfold tokA
    rw [h4]
    exact h2
theorem Par.more {w : World} {P : Nat} {src : ByteArray} {T : List Tok} {R : Nat → Prop} {s : PS} (h : Par w P src T R s) (hk : (tokA T s).k ≠ 0) : s.i < T.length - 1 := by
  obtain ⟨A, cT, v, L, h⟩ := h
  exact h.more hk
theorem Par.post {w w' : World} {P : Nat} {src : ByteArray} {T : List Tok} {R : Nat → Prop} {s : PS} (h : Par w P src T R s) (k : Keeps (fun _ => False) w w') (r : Value) : Post P src T R w r s (.returned r) w' :=
  ⟨rfl, R, h.keep k, (Fr.refl R w).keeps k⟩
theorem Par.setI {w : World} {P : Nat} {src : ByteArray} {T : List Tok} {R : Nat → Prop} {s : PS} (h : Par w P src T R s) (i : Nat) (hi : i < T.length) : Par (w.setCell ⟨P, 2, none⟩ (.int .i64 (i : Int))) P src T R { s with i := i } ∧ Fr R w R (w.setCell ⟨P, 2, none⟩ (.int .i64 (i : Int))) := by
  obtain ⟨A, cT, v, L, h⟩ := h
  have h2 := h.set (s' := { s with i := i }) 2 (i : Int) (.inl ⟨rfl, rfl, rfl, rfl, rfl⟩) rfl hi
  exact ⟨⟨A, cT, v, L, h2.1⟩, h2.2⟩
theorem Par.setPl {w : World} {P : Nat} {src : ByteArray} {T : List Tok} {R : Nat → Prop} {s : PS} (h : Par w P src T R s) (i : Nat) : Par (w.setCell ⟨P, 3, none⟩ (.int .i64 (i : Int))) P src T R { s with pl := i } ∧ Fr R w R (w.setCell ⟨P, 3, none⟩ (.int .i64 (i : Int))) := by
  obtain ⟨A, cT, v, L, h⟩ := h
  have h2 := h.set (s' := { s with pl := i }) 3 (i : Int) (.inr (.inl ⟨rfl, rfl, rfl, rfl, rfl⟩)) rfl h.hi
  exact ⟨⟨A, cT, v, L, h2.1⟩, h2.2⟩
theorem Par.setEr {w : World} {P : Nat} {src : ByteArray} {T : List Tok} {R : Nat → Prop} {s : PS} (h : Par w P src T R s) (i : Nat) : Par (w.setCell ⟨P, 4, none⟩ (.int .i64 (i : Int))) P src T R { s with er := i } ∧ Fr R w R (w.setCell ⟨P, 4, none⟩ (.int .i64 (i : Int))) := by
  obtain ⟨A, cT, v, L, h⟩ := h
  have h2 := h.set (s' := { s with er := i }) 4 (i : Int) (.inr (.inr (.inl ⟨rfl, rfl, rfl, rfl, rfl⟩))) rfl h.hi
  exact ⟨⟨A, cT, v, L, h2.1⟩, h2.2⟩
theorem Par.setDp {w : World} {P : Nat} {src : ByteArray} {T : List Tok} {R : Nat → Prop} {s : PS} (h : Par w P src T R s) (d : Int) : Par (w.setCell ⟨P, 6, none⟩ (.int .i64 d)) P src T R { s with dp := d } ∧ Fr R w R (w.setCell ⟨P, 6, none⟩ (.int .i64 d)) := by
  obtain ⟨A, cT, v, L, h⟩ := h
  have h2 := h.set (s' := { s with dp := d }) 6 d (.inr (.inr (.inr ⟨rfl, rfl, rfl, rfl, rfl⟩))) rfl h.hi
  exact ⟨⟨A, cT, v, L, h2.1⟩, h2.2⟩

/-- What a walk reads of a parser in memory. -/
structure See (w : World) (P : Nat) (src : ByteArray) (i pl er : Nat) (dp : Int) (n : Nat) : Prop where
  c0 : w.cell? ⟨P, 0, none⟩ = some (.string src)
  c1 : ∃ A cT, w.cell? ⟨P, 1, none⟩ = some (.slice A n cT)
  c2 : w.cell? ⟨P, 2, none⟩ = some (.int .i64 (i : Int))
  c3 : w.cell? ⟨P, 3, none⟩ = some (.int .i64 (pl : Int))
  c4 : w.cell? ⟨P, 4, none⟩ = some (.int .i64 (er : Int))
  c6 : w.cell? ⟨P, 6, none⟩ = some (.int .i64 dp)
  fz : ∀ k, w.frozen? ⟨P, k, none⟩ = false
theorem Par.see {w : World} {P : Nat} {src : ByteArray} {T : List Tok} {R : Nat → Prop} {s : PS} (h : Par w P src T R s) : See w P src s.i s.pl s.er s.dp T.length := by
  obtain ⟨A, cT, v, L, h⟩ := h
  exact ⟨h.c0, ⟨A, cT, h.c1⟩, h.c2, h.c3, h.c4, h.c6, h.fz⟩
theorem Par.hi {w : World} {P : Nat} {src : ByteArray} {T : List Tok} {R : Nat → Prop} {s : PS} (h : Par w P src T R s) : s.i < T.length := by
  obtain ⟨A, cT, v, L, h⟩ := h
  exact h.hi
theorem Par.ok {w : World} {P : Nat} {src : ByteArray} {T : List Tok} {R : Nat → Prop} {s : PS} (h : Par w P src T R s) : TokOK T := by
  obtain ⟨A, cT, v, L, h⟩ := h
  exact h.ok
set_option maxRecDepth 100000 in
set_option maxHeartbeats 8000000 in
theorem next_any {P : Nat} {src : ByteArray} {T : List Tok} {R : Nat → Prop} {s : PS} {w : World} (h : Par w P src T R s) : Calls Tryd.prog 53 #[.pointer (some ⟨P, 0, none⟩)] w (Post P src T R w (.tuple #[]) (nextS T s)) := by
  have H := Lib.hid h
  have sw := h.see
  have hi := h.hi
  have hle := h.ok.le
  obtain ⟨A, cT, c1⟩ := sw.c1
  have c2 := sw.c2
  obtain ⟨i, hI⟩ : ∃ i, i = s.i := ⟨_, rfl⟩
  obtain ⟨n, hn⟩ : ∃ n, n = T.length := ⟨_, rfl⟩
  rw [← hI] at c2 hi
  rw [← hn] at c1 hi hle
  have n1 : IntKind.i64.wrap ((n : Int) - 1) = (n : Int) - 1 := IntWalk.i64_in _ (by omega)
  by_cases hlt : i < n - 1
  · have hE : nextS T s = { s with i := i + 1 } := by unfold nextS; rw [← hI, ← hn, if_pos hlt]
    have i1 : IntKind.i64.wrap ((i : Int) + 1) = (i : Int) + 1 := IntWalk.i64_in _ (by omega)
    have hltI : (i : Int) < (n : Int) - 1 := by omega
    have hd : decide ((i : Int) < (n : Int) - 1) = true := decide_eq_true hltI
    have hfin : Hid (∀ w1, Keeps (fun _ => False) w w1 → Post P src T R w (.tuple #[]) (nextS T s) (.returned (.tuple #[])) (w1.setCell ⟨P, 2, none⟩ (.int .i64 ((i : Int) + 1)))) := Lib.hid fun w1 k => by
      rw [hE]
      have h1 := (H.out.keep k).setI (i + 1) (by rw [← hn]; omega)
      rw [show ((i + 1 : Nat) : Int) = (i : Int) + 1 by omega] at h1
      exact ⟨rfl, R, h1.1, (((Fr.refl R w).keeps k).trans h1.2)⟩
    have SEE : Hid (∀ w1, Keeps (fun _ => False) w w1 → w1.cell? ⟨P, 2, none⟩ = some (.int .i64 (i : Int)) ∧ w1.frozen? ⟨P, 2, none⟩ = false) := Lib.hid fun w1 k => by
      have := (H.out.keep k).see
      rw [hI]
      exact ⟨this.c2, this.fz 2⟩
    clear hE hI hn H hi sw h
    go_enter Tryd.func53, Tryd.ntmps53
    go_wp2_with fail
    go_quiet (fail)
    have kd := drew_keeps w nq
    generalize w.drewN nq = w1 at *
    clear c1 c2
    obtain ⟨c2, f2⟩ := SEE.out w1 kd
    go_wp2
    exact bodyPost_end (v := .tuple #[]) (by simp [results, Tryd.results53, go_sem]) rfl (hfin.out w1 kd)
  · have hE : nextS T s = s := by unfold nextS; rw [← hI, ← hn, if_neg hlt]
    have hltI : ¬ (i : Int) < (n : Int) - 1 := by omega
    have hd : decide ((i : Int) < (n : Int) - 1) = false := decide_eq_false hltI
    have hfin : Hid (∀ w1, Keeps (fun _ => False) w w1 → Post P src T R w (.tuple #[]) (nextS T s) (.returned (.tuple #[])) w1) := Lib.hid fun w1 k => by
      rw [hE]
      exact H.out.post k _
    clear hE hI hn H hi sw h
    go_enter Tryd.func53, Tryd.ntmps53
    go_wp2_with fail
    go_quiet (fail)
    have kd := drew_keeps w nq
    generalize w.drewN nq = w1 at *
    clear c1 c2
    go_wp2
    exact bodyPost_end (v := .tuple #[]) (by simp [results, Tryd.results53, go_sem]) rfl (hfin.out w1 kd)
set_option maxRecDepth 100000 in
set_option maxHeartbeats 8000000 in
theorem fail_any {P : Nat} {src : ByteArray} {T : List Tok} {R : Nat → Prop} {s : PS} {w : World} (h : Par w P src T R s) (e : Nat) : Calls Tryd.prog 79 #[.pointer (some ⟨P, 0, none⟩), .int .i64 (e : Int)] w (Post P src T R w (.tuple #[]) (failS T e s)) := by
  have H := Lib.hid h
  have sw := h.see
  have hle := h.ok.le
  have hne := h.ok.ne
  have c4 := sw.c4
  obtain ⟨n, hn⟩ : ∃ n, n = T.length := ⟨_, rfl⟩
  rw [← hn] at hle hne
  by_cases he : s.er = 0
  · have hE : failS T e s = { s with pl := (tokA T s).p, er := e, i := n - 1 } := by unfold failS; rw [if_pos he, ← hn]
    have NC : Hid (Calls Tryd.prog 25 #[.pointer (some ⟨P, 0, none⟩)] w fun e w' => e = .returned (.agg #[.int .i64 ((tokA T s).k : Int), .string (ofL (tokA T s).x), .int .i64 ((tokA T s).p : Int)]) ∧ Keeps (fun _ => False) w w') := Lib.hid (now_any h)
    have n1 : IntKind.i64.wrap ((n : Int) - 1) = (n : Int) - 1 := IntWalk.i64_in _ (by omega)
    obtain ⟨tk, htk⟩ : ∃ tk, tk = tokA T s := ⟨_, rfl⟩
    rw [← htk] at NC hE
    have hfin : Hid (∀ w1, Keeps (fun _ => False) w w1 → Post P src T R w (.tuple #[]) (failS T e s) (.returned (.tuple #[])) (((w1.setCell ⟨P, 3, none⟩ (.int .i64 (tk.p : Int))).setCell ⟨P, 4, none⟩ (.int .i64 (e : Int))).setCell ⟨P, 2, none⟩ (.int .i64 ((n : Int) - 1)))) := Lib.hid fun w1 k => by
      rw [hE]
      have h1 := (H.out.keep k).setPl tk.p
      have h2 := h1.1.setEr e
      have h3 := h2.1.setI (n - 1) (by rw [← hn]; omega)
      rw [show ((n - 1 : Nat) : Int) = (n : Int) - 1 by omega] at h3
      exact ⟨rfl, R, h3.1, ((((Fr.refl R w).keeps k).trans h1.2).trans h2.2).trans h3.2⟩
    have SEE : Hid (∀ w1, Keeps (fun _ => False) w w1 → ∃ A cT, w1.cell? ⟨P, 1, none⟩ = some (.slice A n cT) ∧ w1.cell? ⟨P, 2, none⟩ = some (.int .i64 (s.i : Int)) ∧ w1.cell? ⟨P, 3, none⟩ = some (.int .i64 (s.pl : Int)) ∧ w1.cell? ⟨P, 4, none⟩ = some (.int .i64 (s.er : Int)) ∧ w1.frozen? ⟨P, 2, none⟩ = false ∧ w1.frozen? ⟨P, 3, none⟩ = false ∧ w1.frozen? ⟨P, 4, none⟩ = false) := Lib.hid fun w1 k => by
      have := (H.out.keep k).see
      rw [hn]
      obtain ⟨A, cT, c1⟩ := this.c1
      exact ⟨A, cT, c1, this.c2, this.c3, this.c4, this.fz 2, this.fz 3, this.fz 4⟩
    rw [he] at c4
    have F2 : ∀ w, Sem.run Tryd.prog (Instr.field 54 (.agg #[.int .i64 (tk.k : Int), .string (ofL tk.x), .int .i64 (tk.p : Int)]) 2) w = .ok (.int .i64 (tk.p : Int)) w := fun w => tok_field2 _ _ _ w
    clear hE H sw h htk hn he
    go_enter Tryd.func79, Tryd.ntmps79
    go_wp2_with fail
    refine NC.out.mono ?_
    rintro e w1 ⟨rfl, k1⟩
    obtain ⟨A, cT, d1, d2, d3, d4, f2, f3, f4⟩ := SEE.out w1 k1
    have HF := Lib.hid (hfin.out w1 k1)
    clear k1 c4 SEE hfin NC
    go_wp2
    exact bodyPost_end (v := .tuple #[]) (by simp [results, Tryd.results79, go_sem]) rfl HF.out
  · have hE : failS T e s = s := by unfold failS; rw [if_neg he]
    have heI : ¬ (s.er : Int) = 0 := by omega
    have hd : ((s.er : Int) == 0) = false := by simpa using heI
    have hfin : Hid (Post P src T R w (.tuple #[]) (failS T e s) (.returned (.tuple #[])) w) := Lib.hid (by rw [hE]; exact H.out.post (Keeps.refl _ _) _)
    generalize s.er = er at c4 heI hd
    clear hE H sw h hn he
    go_enter Tryd.func79, Tryd.ntmps79
    go_wp2_with fail
    exact bodyPost_end (v := .tuple #[]) (by simp [results, Tryd.results79, go_sem]) rfl hfin.out
end Go.Proofs.YtgelggdgbmldiaaDoor

namespace Go.Proofs.YtgelggdgbmldiaaDoor
open Go Go.RowKit Go.Shelf
set_option linter.unusedVariables false
set_option linter.unusedSimpArgs false

theorem is_one {P : Nat} {src : ByteArray} {T : List Tok} {R : Nat → Prop} {s : PS} {w : World} (h : Par w P src T R s) (x : ByteArray) (t : TypeId) :
    Calls Tryd.prog 51 #[.pointer (some ⟨P, 0, none⟩), .slice (some ⟨w.heap.size, 0, none⟩) 1 1] (w.alloc (.cells #[.string x] t)) fun e w' => e = .returned (.bool (isS T [x.data.toList] s)) ∧ Keeps (fun _ => False) w w' :=
  (is_any (h.keep (Keeps.one w _)) [x] w.heap.size 0 1 rfl (by omega) (fun j hj => by
    have : j = 0 := by omega
    subst this
    exact (World.cell?_alloc_mark w #[.string x] t (0, 0) 0))).mono fun e w' ⟨h1, k⟩ => ⟨h1, (Keeps.one w _).trans k (fun _ _ h => h)⟩
set_option maxRecDepth 100000 in
set_option maxHeartbeats 8000000 in
theorem want_any {P : Nat} {src : ByteArray} {T : List Tok} {R : Nat → Prop} {s : PS} {w : World} (h : Par w P src T R s) (x : ByteArray) : Calls Tryd.prog 49 #[.pointer (some ⟨P, 0, none⟩), .string x] w (Post P src T R w (.tuple #[]) (wantS T x.data.toList s)) := by
  have H := Lib.hid h
  have IC := is_one h x 9
  cases hb : isS T [x.data.toList] s with
  | true =>
    have hE : wantS T x.data.toList s = nextS T s := by unfold wantS; rw [hb, if_pos rfl]
    rw [hE]
    rw [hb] at IC
    have IC := Lib.hid IC
    clear hE hb h
    go_enter Tryd.func49, Tryd.ntmps49
    go_wp2_with fail
    refine IC.out.mono ?_
    rintro e w1 ⟨rfl, k1⟩
    have NX := Lib.hid (next_any (H.out.keep k1))
    clear IC
    go_wp2_with fail
    refine NX.out.mono ?_
    rintro e w2 ⟨rfl, R', hp, hf⟩
    have HF : Hid (Post P src T R w (.tuple #[]) (nextS T s) (.returned (.tuple #[])) w2) := Lib.hid ⟨rfl, R', hp, ((Fr.refl R w).keeps k1).trans hf⟩
    clear hp hf NX
    go_wp2_with fail
    exact bodyPost_end (v := .tuple #[]) (by simp [results, Tryd.results49, go_sem]) rfl HF.out
  | false =>
    have hE : wantS T x.data.toList s = failS T 20 s := by unfold wantS; rw [hb]; rfl
    rw [hE]
    rw [hb] at IC
    have IC := Lib.hid IC
    clear hE hb h
    go_enter Tryd.func49, Tryd.ntmps49
    go_wp2_with fail
    refine IC.out.mono ?_
    rintro e w1 ⟨rfl, k1⟩
    have NX := Lib.hid (fail_any (H.out.keep k1) 20)
    clear IC
    go_wp2_with fail
    refine NX.out.mono ?_
    rintro e w2 ⟨rfl, R', hp, hf⟩
    have HF : Hid (Post P src T R w (.tuple #[]) (failS T 20 s) (.returned (.tuple #[])) w2) := Lib.hid ⟨rfl, R', hp, ((Fr.refl R w).keeps k1).trans hf⟩
    clear hp hf NX
    go_wp2_with fail
    exact bodyPost_end (v := .tuple #[]) (by simp [results, Tryd.results49, go_sem]) rfl HF.out
set_option maxRecDepth 100000 in
set_option maxHeartbeats 8000000 in
theorem pname_any {P : Nat} {src : ByteArray} {T : List Tok} {R : Nat → Prop} {s : PS} {w : World} (h : Par w P src T R s) : Calls Tryd.prog 50 #[.pointer (some ⟨P, 0, none⟩)] w (Post P src T R w (.string (ofL (nameX T s))) (nameS T s)) := by
  have H := Lib.hid h
  have NC : Hid (Calls Tryd.prog 25 #[.pointer (some ⟨P, 0, none⟩)] w fun e w' => e = .returned (.agg #[.int .i64 ((tokA T s).k : Int), .string (ofL (tokA T s).x), .int .i64 ((tokA T s).p : Int)]) ∧ Keeps (fun _ => False) w w') := Lib.hid (now_any h)
  by_cases hk : (tokA T s).k = 3
  · have hE : nameS T s = nextS T s := by unfold nameS; rw [if_pos hk]
    have hX : nameX T s = (tokA T s).x := by unfold nameX; rw [if_pos hk]
    rw [hE, hX]
    clear hE hX
    generalize tokA T s = tk at NC hk ⊢
    rw [show (tk.k : Int) = 3 by omega] at NC
    obtain ⟨k, hk3⟩ : ∃ k : Int, k = 3 := ⟨_, rfl⟩
    rw [← hk3] at NC
    have hne : (k != 3) = false := by rw [hk3]; rfl
    clear hk h hk3
    go_enter Tryd.func50, Tryd.ntmps50
    go_wp2_with fail
    refine NC.out.mono ?_
    rintro e w1 ⟨rfl, k1⟩
    have z := Loc.new (w := w1) (R := R) (H.out.keep k1).new [.int .i64 k, .string (ofL tk.x), .int .i64 (tk.p : Int)] 54
    have K2 := Lib.hid (k1.alloc (.cells #[.int .i64 k, .string (ofL tk.x), .int .i64 (tk.p : Int)] 54))
    go_upto_region 2 with fail
    obtain ⟨X, hX⟩ : ∃ X, X = w1.heap.size := ⟨_, rfl⟩
    obtain ⟨w2, hw2⟩ : ∃ w2, w2 = w1.alloc (.cells #[.int .i64 k, .string (ofL tk.x), .int .i64 (tk.p : Int)] 54) := ⟨_, rfl⟩
    have z : Loc w2 R X [.int .i64 k, .string (ofL tk.x), .int .i64 (tk.p : Int)] := by rw [hw2, hX]; exact z
    rw [← hX]
    rw [← hw2] at K2 ⊢
    have Z := Lib.hid z
    have z0 := z.cells 0 _ rfl
    clear k1 hw2 hX z NC
    have NX := Lib.hid (next_any (H.out.keep K2.out))
    go_wp2_with fail
    refine NX.out.mono ?_
    rintro e w3 ⟨rfl, R', hp, hf⟩
    have z1 := (Z.out.keep hf).cells 1 _ rfl
    have HF : Hid (Post P src T R w (.string (ofL tk.x)) (nextS T s) (.returned (.string (ofL tk.x))) w3) := Lib.hid ⟨rfl, R', hp, ((Fr.refl R w).keeps K2.out).trans hf⟩
    clear hp hf NX z0
    go_wp2_with fail
    go_ret
    exact HF.out
  · have hE : nameS T s = failS T 20 s := by unfold nameS; rw [if_neg hk]
    have hX : nameX T s = [] := by unfold nameX; rw [if_neg hk]
    rw [hE, hX]
    clear hE hX
    generalize tokA T s = tk at NC hk ⊢
    obtain ⟨k, hk3⟩ : ∃ k : Int, k = tk.k := ⟨_, rfl⟩
    rw [← hk3] at NC
    have hne : (k != 3) = true := by rw [hk3]; simp; omega
    clear hk h hk3
    go_enter Tryd.func50, Tryd.ntmps50
    go_wp2_with fail
    refine NC.out.mono ?_
    rintro e w1 ⟨rfl, k1⟩
    have z := Loc.new (w := w1) (R := R) (H.out.keep k1).new [.int .i64 k, .string (ofL tk.x), .int .i64 (tk.p : Int)] 54
    have K2 := Lib.hid (k1.alloc (.cells #[.int .i64 k, .string (ofL tk.x), .int .i64 (tk.p : Int)] 54))
    go_upto_region 2 with fail
    obtain ⟨X, hX⟩ : ∃ X, X = w1.heap.size := ⟨_, rfl⟩
    obtain ⟨w2, hw2⟩ : ∃ w2, w2 = w1.alloc (.cells #[.int .i64 k, .string (ofL tk.x), .int .i64 (tk.p : Int)] 54) := ⟨_, rfl⟩
    have z : Loc w2 R X [.int .i64 k, .string (ofL tk.x), .int .i64 (tk.p : Int)] := by rw [hw2, hX]; exact z
    rw [← hX]
    rw [← hw2] at K2 ⊢
    have Z := Lib.hid z
    have z0 := z.cells 0 _ rfl
    clear k1 hw2 hX z NC
    have NX := Lib.hid (fail_any (H.out.keep K2.out) 20)
    go_wp2_with fail
    refine NX.out.mono ?_
    rintro e w3 ⟨rfl, R', hp, hf⟩
    have HF : Hid (Post P src T R w (.string (ofL [])) (failS T 20 s) (.returned (.string (ofL []))) w3) := Lib.hid ⟨rfl, R', hp, ((Fr.refl R w).keeps K2.out).trans hf⟩
    clear hp hf NX z0
    go_wp2_with fail
    go_ret
    exact HF.out
end Go.Proofs.YtgelggdgbmldiaaDoor

namespace Go.Proofs.YtgelggdgbmldiaaDoor
open Go Go.RowKit Go.Shelf
set_option linter.unusedVariables false
set_option linter.unusedSimpArgs false
theorem step_append_atk {P : Program} {ops : Array Oper} {o : Oper} {a : Act} {w : World} {K : Act → World → Prop} {Q : Exit → Act → World → Prop} {E : Prop} (hgd : o.guard = none) (s x : Operand) (t : TypeId)
    (ho : o.op = .call { callee := .builtin .append, args := #[s, x], argTypes := #[t, t] })
    (base : Nat) (e : TypeId) (i : TypeInfo) (z : Value) (size bytes : Nat) (ht : P.underlying t = some (.slice e)) (hi : P.info? e = some i) (hz : i.zero = some z)
    (hsize : i.size = size) (hby : i.bytes = bytes) (hzs : z.cells.size = size) (hsz : 0 < size)
    (v : Value) (n : Nat) (xs : List Value) (hs : a.eval s = v) (hown : w.ownsRow base e size v n xs)
    (ad : Addr) (m c : Nat) (news : List Value) (hx : a.eval x = .slice (some ad) m c) (hl : news.length = m * size) (hnews : ∀ j u, news[j]? = some u → w.cell? (ad.add j) = some u) (h1 : ∀ u ∈ news, u.oneCell' = true)
    (h63 : n + m ≤ 1000000) (hby2 : bytes ≤ 64) (hbase : base ≤ w.heap.size)
    (h : ∀ v' w', w'.ownsRow base e size v' (n + m) (xs ++ news) → w.grownBy w' v.ownBlock → (v'.ownBlock = v.ownBlock ∨ v'.ownBlock = some w.heap.size) → K (a.put o.dst v') w') :
    if Region.wanted o (yielded ops a.tmps) = true then Oper.wp P o a w K Q else E := by
  have hw : Region.wanted o (yielded ops a.tmps) = true := by simp [Region.wanted, hgd]
  rw [if_pos hw]
  have hb : (n + m) * bytes ≤ 140737488355328 := Nat.le_trans (Nat.mul_le_mul h63 hby2) (by omega)
  obtain ⟨v', w', hrun, q1, q2, q3⟩ := run_append_atk (P := P) w base t o.type e i z size bytes ht hi hz hsize hby hzs hsz v n xs hown ad m c news hl hnews h1 (by unfold maxLen; omega) hb hbase
  unfold Oper.wp execOp
  simp only [ho, resolve, invoke, builtin, Sem.run_bind, Sem.run_pure, Result.andThen_ok, List.map_toArray, List.map_cons, List.map_nil, hs, hx, hrun]
  exact h v' w' q1 q2 q3
theorem info_node : (Tryd.prog.info? 33).map (fun i => (i.zero, i.size, i.bytes)) = some (some (.agg #[.int .i64 0, .int .i64 0, .int .i64 0, .string ⟨#[]⟩, .slice none 0 0]), 5, 64) := by kernel_rfl

theorem news5 {w : World} (x : NM) (t : TypeId) : ∀ j u, x.cells[j]? = some u → (w.alloc (.cells x.cells.toArray t)).cell? ((⟨w.heap.size, 0, none⟩ : Addr).add j) = some u := by
  intro j u h
  have e : (⟨w.heap.size, 0, none⟩ : Addr).add j = ⟨w.heap.size, j, none⟩ := by unfold Addr.add; split <;> simp_all
  rw [e, World.cell?_alloc_mark]
  simpa using h

/-- What a node more makes of a parser in memory. -/
theorem ParX.add {w : World} {P : Nat} {src : ByteArray} {T : List Tok} {A : Option Addr} {cT : Nat} {R : Nat → Prop} {s : PS} {v : Value} {L : List NM} (h : ParX w P src T A cT R s v L) {w1 w5 : World} (k1 : Keeps (fun _ => False) w w1) (x : NM) (hx : RdI w1 x.a x.d.l) (X : Nat)
    (hX : 0 < x.d.l.length → ∃ off, x.a = some ⟨X, off, none⟩) (hR : ¬ R X) (hPX : P < X) {v5 : Value} (ho : w5.ownsRow 0 33 5 v5 (L.length + 1) (flatN L ++ x.cells)) (hg : w1.grownBy w5 v.ownBlock) (hb : v5.ownBlock = v.ownBlock ∨ v5.ownBlock = some w1.heap.size) :
    (w5.cell? ⟨P, 5, none⟩ = some v ∧ w5.frozen? ⟨P, 5, none⟩ = false) ∧
    ((w5.setCell ⟨P, 5, none⟩ v5).cell? ⟨P, 5, none⟩ = some v5 ∧ ∃ R', Par (w5.setCell ⟨P, 5, none⟩ v5) P src T R' { s with nd := s.nd ++ [x.d] } ∧ Keeps R w (w5.setCell ⟨P, 5, none⟩ v5) ∧ ∀ b, b < w.heap.size → R' b → R b ∨ b = X) := by
  have hP := h.lo
  have hs1 := k1.size
  -- the blocks
  have b5 : ∀ g, v5.ownBlock = some g → g = w1.heap.size ∨ v.ownBlock = some g := fun g hg => by
    rcases hb with e | e
    · exact .inr (e ▸ hg)
    · rw [e] at hg; cases hg; exact .inl rfl
  have keep5 : ∀ b, b < w1.heap.size → (∀ g, v.ownBlock = some g → b ≠ g) → w5.heap[b]? = w1.heap[b]? := fun b hb hn => hg.block b hb (fun e => hn b e.symm rfl)
  have cP : ∀ j, w5.cell? ⟨P, j, none⟩ = w.cell? ⟨P, j, none⟩ := fun j => (World.cell?_of_block (w := w1) (keep5 P (by omega) (fun g hg => fun e => (h.vb g hg).2 e.symm))).trans (k1.cell hP (fun h => h))
  have fP : ∀ j, w5.frozen? ⟨P, j, none⟩ = w.frozen? ⟨P, j, none⟩ := fun j => (World.frozen?_of_block (w := w1) (keep5 P (by omega) (fun g hg => fun e => (h.vb g hg).2 e.symm))).trans (k1.frozen hP (fun h => h))
  have c5 := (cP 5).trans h.c5
  have c5' : (w5.setCell ⟨P, 5, none⟩ v5).cell? ⟨P, 5, none⟩ = some v5 := cell_same w5 P 5 _ _ c5
  refine ⟨⟨c5, (fP 5).trans (h.fz 5)⟩, c5', ?_⟩
  have oth : ∀ j, 5 ≠ j → (w5.setCell ⟨P, 5, none⟩ v5).cell? ⟨P, j, none⟩ = w.cell? ⟨P, j, none⟩ := fun j e => (cell_other w5 5 j _ (.inl e)).trans (cP j)
  have kw6 : Keeps (fun b => b = P) w5 (w5.setCell ⟨P, 5, none⟩ v5) := (Keeps.refl (fun b => b = P) w5).setCell (p := ⟨P, 5, none⟩) (fun _ => rfl) _
  have k15 : Keeps (fun b => v.ownBlock = some b) w1 w5 := ⟨hg.os, hg.tape, hg.output, hg.size, fun b hb hn => hg.block b hb (fun e => hn e.symm)⟩
  have kall : Keeps (fun b => b = P ∨ v.ownBlock = some b) w (w5.setCell ⟨P, 5, none⟩ v5) :=
    ((k1.mono (T := fun b => b = P ∨ v.ownBlock = some b) (fun _ _ h => h.elim)).trans k15 (fun _ _ e => .inr e)).trans kw6 (fun _ _ e => .inl e)
  have sz5 : w1.heap.size ≤ w5.heap.size := hg.size
  have sz6 : (w5.setCell ⟨P, 5, none⟩ v5).heap.size = w5.heap.size := by simp
  have rdx : RdI w5 x.a x.d.l := hx.keep k15 (fun h0 b off e hv => by
    obtain ⟨off', e'⟩ := hX h0
    rw [e] at e'
    cases e'
    exact hR (h.vb X hv).1)
  refine ⟨fun b => R b ∨ (b = X ∧ 0 < x.d.l.length) ∨ v5.ownBlock = some b, ⟨A, cT, v5, L ++ [x], ?_⟩, kall.mono (fun b _ e => e.elim (fun e => e ▸ h.rp) (fun e => (h.vb b e).1)), fun b hb hr => ?_⟩
  · have lift : ∀ b, R b → b < w5.heap.size := fun b hb => Nat.lt_of_lt_of_le (h.lt b hb) (by omega)
    have nP : ∀ g, v5.ownBlock = some g → g ≠ P := fun g hg => by
      rcases b5 g hg with e | e
      · omega
      · exact (h.vb g e).2
    have nR : ∀ b, R b → b ≠ P → (∀ g, v.ownBlock = some g → b ≠ g) → ∀ g, v5.ownBlock = some g → b ≠ g := fun b hb _ hn g hg => by
      rcases b5 g hg with e | e
      · have := h.lt b hb; omega
      · exact hn g e
    have ltA : ∀ b, (R b ∨ (b = X ∧ 0 < x.d.l.length) ∨ v5.ownBlock = some b) → b < (w5.setCell ⟨P, 5, none⟩ v5).heap.size := fun b hb => by
      rw [sz6]
      rcases hb with hb | ⟨hb, h0⟩ | hb
      · exact lift b hb
      · obtain ⟨off, e⟩ := hX h0
        rw [hb]
        exact rdx.lt h0 e
      · exact (ho.lt b hb).2
    have ownA : (w5.setCell ⟨P, 5, none⟩ v5).ownsRow 0 33 5 v5 (L ++ [x]).length (flatN (L ++ [x])) := by
      rw [flatN_append, flatN_one, List.length_append]
      exact ownsRow_keep ho (fun g hg => kw6.block g (ho.lt g hg).2 (nP g hg))
    have lsA : ∀ y ∈ L ++ [x], RdI (w5.setCell ⟨P, 5, none⟩ v5) y.a y.d.l ∧ (0 < y.d.l.length → ∀ b off, y.a = some ⟨b, off, none⟩ → (R b ∨ (b = X ∧ 0 < x.d.l.length) ∨ v5.ownBlock = some b) ∧ b ≠ P ∧ ∀ g, v5.ownBlock = some g → b ≠ g) := fun y hy => by
      rcases List.mem_append.1 hy with hy | hy
      · exact ⟨(h.ls y hy).1.keep kall (fun h0 b off e hc => hc.elim ((h.ls y hy).2 h0 b off e).2.1 (fun hv => ((h.ls y hy).2 h0 b off e).2.2 b hv rfl)), fun h0 b off e => ⟨.inl ((h.ls y hy).2 h0 b off e).1, ((h.ls y hy).2 h0 b off e).2.1, nR b ((h.ls y hy).2 h0 b off e).1 ((h.ls y hy).2 h0 b off e).2.1 ((h.ls y hy).2 h0 b off e).2.2⟩⟩
      · rw [List.mem_singleton.1 hy]
        refine ⟨rdx.keep kw6 (fun h0 b off e hc => ?_), fun h0 b off e => ?_⟩
        · obtain ⟨off', e'⟩ := hX h0
          rw [e] at e'
          cases e'
          exact hR (hc ▸ h.rp)
        · obtain ⟨off', e'⟩ := hX h0
          rw [e] at e'
          cases e'
          refine ⟨.inr (.inl ⟨rfl, h0⟩), fun e => hR (e ▸ h.rp), fun g hg e2 => ?_⟩
          rcases b5 g hg with e3 | e3
          · have := hx.lt h0 e
            omega
          · exact hR (e2 ▸ (h.vb g e3).1)
    have erA : ErrP P (fun b => R b ∨ (b = X ∧ 0 < x.d.l.length) ∨ v5.ownBlock = some b) (w5.setCell ⟨P, 5, none⟩ v5) := h.er.keep kall (fun b hb => hb.elim (fun e => .inr (by omega)) (fun e => .inl (h.vb b e).1)) (fun b hb => by
      rcases hb with hb | ⟨hb, _⟩ | hb
      · exact .inl hb
      · exact .inr (by omega)
      · rcases b5 b hb with e | e
        · exact .inr (by omega)
        · exact .inl (h.vb b e).1)
    exact { c0 := (oth 0 (by omega)).trans h.c0, c1 := (oth 1 (by omega)).trans h.c1, c2 := (oth 2 (by omega)).trans h.c2, c3 := (oth 3 (by omega)).trans h.c3, c4 := (oth 4 (by omega)).trans h.c4, c5 := c5', c6 := (oth 6 (by omega)).trans h.c6, fz := fun j => (World.frozen?_setCell w5 _ _ _).trans ((fP j).trans (h.fz j)), lt := ltA, rp := .inl h.rp, tok := h.tok.keepR kall (fun _ b off e hc => hc.elim (h.tb b off e).2.1 (fun hv => (h.tb b off e).2.2 b hv rfl)), tb := fun b off e => ⟨.inl (h.tb b off e).1, (h.tb b off e).2.1, nR b (h.tb b off e).1 (h.tb b off e).2.1 (h.tb b off e).2.2⟩, own := ownA, vb := fun g hg => ⟨.inr (.inr hg), nP g hg⟩, nd := (by rw [List.map_append, h.nd]; rfl), ls := lsA, hi := h.hi, ok := h.ok, er := erA }
  · rcases hr with hr | ⟨hr, _⟩ | hr
    · exact .inl hr
    · exact .inr hr
    · rcases b5 b hr with e | e
      · omega
      · exact .inl (h.vb b e).1
set_option maxRecDepth 100000 in
set_option maxHeartbeats 8000000 in
theorem node_any {P : Nat} {src : ByteArray} {T : List Tok} {R : Nat → Prop} {s : PS} {w : World} (h : Par w P src T R s) (d : Nd) (a0 : Option Addr) (m0 c0 : Nat) (a : Option Addr) (c : Nat) (l : List Int) (hx : RdI w a l) (X : Nat) (hX : 0 < l.length → ∃ off, a = some ⟨X, off, none⟩) (hR : ¬ R X) (hPX : P < X) (hnd : s.nd.length < 100000) :
    Calls Tryd.prog 85 #[.pointer (some ⟨P, 0, none⟩), .agg #[.int .i64 d.k, .int .i64 d.ln, .int .i64 d.n, .string (ofL d.s), .slice a0 m0 c0], .slice a l.length c] w fun e w' => e = .returned (.int .i64 (s.nd.length : Int)) ∧ ∃ R', Par w' P src T R' { s with nd := s.nd ++ [{ d with l := l }] } ∧ Keeps R w w' ∧ ∀ b, b < w.heap.size → R' b → R b ∨ b = X := by
  obtain ⟨i0, hi, hz0, hz1, hz2⟩ := info_parts info_node
  obtain ⟨A, cT, v, L, h⟩ := h
  have H := Lib.hid h
  have hP := h.lo
  have c5 := h.c5
  have f5 := h.fz 5
  have hL : L.length = s.nd.length := by rw [← h.nd, List.length_map]
  obtain ⟨n, hn⟩ : ∃ n, n = L.length := ⟨_, rfl⟩
  rw [← hL, ← hn] at hnd ⊢
  have HN := Lib.hid hn
  have n1 : IntKind.i64.wrap (((n + 1 : Nat) : Int) - 1) = (n : Int) := by rw [show ((n + 1 : Nat) : Int) - 1 = (n : Int) by omega]; exact IntWalk.i64_in _ (by omega)
  obtain ⟨m, hm⟩ : ∃ m, m = l.length := ⟨_, rfl⟩
  rw [← hm]
  obtain ⟨dx, hdx⟩ : ∃ dx : Nd, dx = { d with l := l } := ⟨_, rfl⟩
  rw [← hdx]
  obtain ⟨x, hxx⟩ : ∃ x : NM, x = ⟨dx, a, c⟩ := ⟨_, rfl⟩
  have hxc : x.cells = [.int .i64 d.k, .int .i64 d.ln, .int .i64 d.n, .string (ofL d.s), .slice a m c] := by rw [hxx, hdx, hm]; rfl
  have XC := Lib.hid hxc
  have hADD : Hid (∀ w1 w5 v5, Keeps (fun _ => False) w w1 → w5.ownsRow 0 33 5 v5 (n + 1) (flatN L ++ x.cells) → w1.grownBy w5 v.ownBlock → (v5.ownBlock = v.ownBlock ∨ v5.ownBlock = some w1.heap.size) → (w5.cell? ⟨P, 5, none⟩ = some v ∧ w5.frozen? ⟨P, 5, none⟩ = false) ∧
      ((w5.setCell ⟨P, 5, none⟩ v5).cell? ⟨P, 5, none⟩ = some v5 ∧ ∃ R', Par (w5.setCell ⟨P, 5, none⟩ v5) P src T R' { s with nd := s.nd ++ [dx] } ∧ Keeps R w (w5.setCell ⟨P, 5, none⟩ v5) ∧ ∀ b, b < w.heap.size → R' b → R b ∨ b = X)) := Lib.hid fun w1 w5 v5 k1 ho hg hb => by
    have hr : RdI w1 x.a x.d.l := by rw [hxx, hdx]; exact hx.keep k1 (fun _ _ _ _ h => h)
    have := H.out.add k1 x hr X (by rw [hxx, hdx]; exact hX) hR hPX (by rw [← HN.out]; exact ho) hg hb
    rwa [show x.d = dx by rw [hxx]] at this
  have hOwn : Hid (∀ w1, Keeps (fun _ => False) w w1 → w1.ownsRow 0 33 5 v n (flatN L)) := Lib.hid fun w1 k => by
    rw [HN.out]
    exact (H.out.keepR k (fun _ _ h => h) (fun _ h => h.elim)).own
  obtain ⟨sx, hsx⟩ : ∃ sx, sx = ofL d.s := ⟨_, rfl⟩
  rw [← hsx] at XC ⊢
  obtain ⟨A0, c0', rfl⟩ := own_formk h.own
  rw [← hn] at c5 hADD hOwn
  clear hn hxx hxc hsx hx hX hR hL hdx hm h hPX
  go_enter Tryd.func85, Tryd.ntmps85
  go_upto_region 1 with fail
  have kb := Keeps.one w (.cells #[.int .i64 d.k, .int .i64 d.ln, .int .i64 d.n, .string sx, .slice a0 m0 c0] 33)
  have zb := Loc.new (w := w) (R := fun b => b = P) (by omega) [.int .i64 d.k, .int .i64 d.ln, .int .i64 d.n, .string sx, .slice a0 m0 c0] 33
  obtain ⟨B, hB⟩ : ∃ B, B = w.heap.size := ⟨_, rfl⟩
  obtain ⟨w1, hw1⟩ : ∃ w1, w1 = w.alloc (.cells #[.int .i64 d.k, .int .i64 d.ln, .int .i64 d.n, .string sx, .slice a0 m0 c0] 33) := ⟨_, rfl⟩
  have zb : Loc w1 (fun b => b = P) B [.int .i64 d.k, .int .i64 d.ln, .int .i64 d.n, .string sx, .slice a0 m0 c0] := by rw [hw1, hB]; exact zb
  rw [← hB]
  rw [← hw1] at kb ⊢
  have z0 := zb.cells 0 _ rfl
  have z1 := zb.cells 1 _ rfl
  have z2 := zb.cells 2 _ rfl
  have z3 := zb.cells 3 _ rfl
  have z4 := zb.cells 4 _ rfl
  have f4 := zb.fz 4
  have c5 := (kb.cell hP (fun h => h)).trans c5
  have f5 := (kb.frozen hP (fun h => h)).trans f5
  have hBl := zb.lt
  have hBP : B ≠ P := zb.out
  have HB := Lib.hid hB
  clear hw1 zb hB
  go_upto_region 2 with fail
  have k2 : Keeps (fun _ => False) w (w1.setCell ⟨B, 4, none⟩ (.slice a m c)) := kback (B := w.heap.size) ((kb.mono (T := fun b => w.heap.size ≤ b) (fun _ _ h => h.elim)).setCell (p := ⟨B, 4, none⟩) (fun _ => by show w.heap.size ≤ B; rw [HB.out]; exact Nat.le_refl _) _) rfl
  have y0 := (cell_other w1 (p := B) (q := B) 4 0 (.slice a m c) (.inl (by omega))).trans z0
  have y1 := (cell_other w1 (p := B) (q := B) 4 1 (.slice a m c) (.inl (by omega))).trans z1
  have y2 := (cell_other w1 (p := B) (q := B) 4 2 (.slice a m c) (.inl (by omega))).trans z2
  have y3 := (cell_other w1 (p := B) (q := B) 4 3 (.slice a m c) (.inl (by omega))).trans z3
  have y4 := cell_same w1 B 4 (.slice a m c) _ z4
  have d5 := (cell_other w1 (p := B) (q := P) 4 5 (.slice a m c) (.inr hBP)).trans c5
  obtain ⟨w2, hw2⟩ : ∃ w2, w2 = w1.setCell ⟨B, 4, none⟩ (.slice a m c) := ⟨_, rfl⟩
  have hw2s : w2.heap.size = w1.heap.size := by rw [hw2]; simp
  rw [← hw2] at k2 y0 y1 y2 y3 y4 d5 ⊢
  have hBl2 : B < w2.heap.size := by omega
  have hPl2 : P < w2.heap.size := Nat.lt_of_lt_of_le hP k2.size
  clear hw2 z0 z1 z2 z3 z4 f4 c5 f5 kb hw2s hBl
  refine wp_region_held_drew (S := fun w' => w'.cell? ⟨B, 0, none⟩ = some (.int .i64 d.k) ∧ w'.cell? ⟨B, 1, none⟩ = some (.int .i64 d.ln) ∧ w'.cell? ⟨B, 2, none⟩ = some (.int .i64 d.n) ∧ w'.cell? ⟨B, 3, none⟩ = some (.string sx) ∧ w'.cell? ⟨B, 4, none⟩ = some (.slice a m c)) (by kernel_rfl) (⟨y0, y1, y2, y3, y4⟩) (fun hHeld => ?_)
  have D0 := Lib.hid (And.intro d5 (And.intro hBl2 hPl2))
  have k3 := Lib.hid k2.drew
  have d5 : w2.drew.cell? ⟨P, 5, none⟩ = some (.slice A0 n c0') := d5
  clear y0 y1 y2 y3 y4
  have Y : Hid (w2.drew.cell? ⟨B, 0, none⟩ = some (.int .i64 d.k) ∧ w2.drew.cell? ⟨B, 1, none⟩ = some (.int .i64 d.ln) ∧ w2.drew.cell? ⟨B, 2, none⟩ = some (.int .i64 d.n) ∧ w2.drew.cell? ⟨B, 3, none⟩ = some (.string sx) ∧ w2.drew.cell? ⟨B, 4, none⟩ = some (.slice a m c)) := Lib.hid hHeld
  have hBO : Hid ((Value.slice A0 n c0').ownBlock ≠ some B) := Lib.hid (fun e => by have h1 := own_ltk (hOwn.out w (Keeps.refl _ _)) e; have h2 := HB.out; omega)
  refine wpAnyH_take (i := 0) (v := ?_) rfl (by kernel_rfl) (by kernel_rfl) (by kernel_rfl) (fun _ _ _ h => h) (Or.inl ⟨by rfl, ?_⟩) (by assumption) ?_
  rotate_left
  · (intro w' hSw; (try dsimp only at hSw); obtain ⟨z0, z1, z2, z3, z4⟩ := hSw; go_simp; (try (with_reducible rfl)))
  simp only [Act.put, List.getElem_toArray, List.getElem_cons_succ, List.getElem_cons_zero, List.setIfInBounds_toArray, List.set_cons_succ, List.set_cons_zero]
  refine wpAnyH_take (i := 1) (v := ?_) rfl (by kernel_rfl) (by kernel_rfl) (by kernel_rfl) (fun _ _ _ h => h) (Or.inl ⟨by rfl, ?_⟩) (by assumption) ?_
  rotate_left
  · (intro w' hSw; (try dsimp only at hSw); obtain ⟨z0, z1, z2, z3, z4⟩ := hSw; go_simp; (try (with_reducible rfl)))
  simp only [Act.put, List.getElem_toArray, List.getElem_cons_succ, List.getElem_cons_zero, List.setIfInBounds_toArray, List.set_cons_succ, List.set_cons_zero]
  refine wpAnyH_take (i := 2) (v := ?_) rfl (by kernel_rfl) (by kernel_rfl) (by kernel_rfl) (fun _ _ _ h => h) (Or.inl ⟨by rfl, ?_⟩) (by assumption) ?_
  rotate_left
  · (intro w' hSw; (try dsimp only at hSw); obtain ⟨z0, z1, z2, z3, z4⟩ := hSw; go_simp; (try (with_reducible rfl)))
  simp only [Act.put, List.getElem_toArray, List.getElem_cons_succ, List.getElem_cons_zero, List.setIfInBounds_toArray, List.set_cons_succ, List.set_cons_zero]
  refine wpAnyH_take (i := 3) (v := ?_) rfl (by kernel_rfl) (by kernel_rfl) (by kernel_rfl) (fun _ _ _ h => h) (Or.inl ⟨by rfl, ?_⟩) (by assumption) ?_
  rotate_left
  · (intro w' hSw; (try dsimp only at hSw); obtain ⟨z0, z1, z2, z3, z4⟩ := hSw; go_simp; (try (with_reducible rfl)))
  simp only [Act.put, List.getElem_toArray, List.getElem_cons_succ, List.getElem_cons_zero, List.setIfInBounds_toArray, List.set_cons_succ, List.set_cons_zero]
  refine wpAnyH_take (i := 5) (v := ?_) rfl (by kernel_rfl) (by kernel_rfl) (by kernel_rfl) (fun _ _ _ h => h) (Or.inl ⟨by rfl, ?_⟩) (by assumption) ?_
  rotate_left
  · (intro w' hSw; (try dsimp only at hSw); obtain ⟨z0, z1, z2, z3, z4⟩ := hSw; go_simp; (try (with_reducible rfl)))
  simp only [Act.put, List.getElem_toArray, List.getElem_cons_succ, List.getElem_cons_zero, List.setIfInBounds_toArray, List.set_cons_succ, List.set_cons_zero]
  refine wpAnyH_ready (rs := [4, 6]) (by kernel_rfl) (by simp) ?_
  refine AllReadyH.cons rfl (fun K hK => ?_) ?_
  · go_simp
    refine hK.out _ _ hHeld (fun hHeld => ?_)
    clear hK K
    refine wpAnyH_ready (rs := [6]) (by kernel_rfl) (by simp) ?_
    refine AllReadyH.cons rfl (fun K hK => ?_) AllReadyH.nil
    go_simp
    have KA := Keeps.one w2.drew (.cells #[.int .i64 d.k, .int .i64 d.ln, .int .i64 d.n, .string sx, .slice a m c] 33)
    refine hK.out _ _ ⟨(KA.cell D0.out.2.1 (fun h => h)).trans hHeld.1, (KA.cell D0.out.2.1 (fun h => h)).trans hHeld.2.1, (KA.cell D0.out.2.1 (fun h => h)).trans hHeld.2.2.1, (KA.cell D0.out.2.1 (fun h => h)).trans hHeld.2.2.2.1, (KA.cell D0.out.2.1 (fun h => h)).trans hHeld.2.2.2.2⟩ (fun hHeld => ?_)
    have d5 := (KA.cell D0.out.2.2 (fun h => h)).trans d5
    clear hK K KA
    refine wpAnyH_ready (rs := [7]) (by kernel_rfl) (by simp) ?_
    refine AllReadyH.cons rfl (fun K hK => ?_) AllReadyH.nil
    have K4 := Lib.hid (k3.out.alloc (.cells #[.int .i64 d.k, .int .i64 d.ln, .int .i64 d.n, .string sx, .slice a m c] 33))
    refine step_append_atk (by rfl) (.tmp 13) (.tmp 15) 24 (by rfl) 0 33 i0 _ 5 64 Tryd.underlying24 hi hz0 hz1 hz2 (by rfl) (by omega) (.slice A0 n c0') n (flatN L) (by rfl) (hOwn.out _ K4.out) ⟨w2.drew.heap.size, 0, none⟩ 1 1 x.cells (by rfl) (by rw [XC.out]; rfl) (by have e := XC.out; have hh := news5 (w := w2.drew) x 33; rw [e] at hh ⊢; exact hh) (NM.one x) (by omega) (by omega) (Nat.zero_le _) ?_
    intro v5 w5 h5 g5 b5
    obtain ⟨A5, c5', rfl⟩ := own_formk h5
    have hm := hADD.out _ _ _ K4.out h5 g5 b5
    have HM := Lib.hid hm.2.2
    have e5 := hm.1.1
    have g5' := hm.1.2
    have e6 := hm.2.1
    have ky : ∀ k, w5.cell? ⟨B, k, none⟩ = w2.drew.cell? ⟨B, k, none⟩ := fun k => (World.cell?_of_block (g5.block B (by show B < (World.alloc _ _).heap.size; rw [World.size_alloc]; exact Nat.lt_succ_of_lt D0.out.2.1) (fun e => hBO.out e.symm))).trans ((Keeps.one w2.drew _).cell D0.out.2.1 (fun h => h))
    refine hK.out _ _ ⟨(ky 0).trans Y.out.1, (ky 1).trans Y.out.2.1, (ky 2).trans Y.out.2.2.1, (ky 3).trans Y.out.2.2.2.1, (ky 4).trans Y.out.2.2.2.2⟩ (fun hHeld => ?_)
    clear hK K hm h5 g5 b5 ky K4
    simp only [Act.put, List.getElem_toArray, List.getElem_cons_succ, List.getElem_cons_zero, List.setIfInBounds_toArray, List.set_cons_succ, List.set_cons_zero]
    refine wpAnyH_take (i := 8) (v := ?_) rfl (by kernel_rfl) (by kernel_rfl) (by kernel_rfl) (fun _ _ _ h => h) (Or.inl ⟨by rfl, ?_⟩) (by assumption) ?_
    rotate_left
    · (intro w' hSw; (try dsimp only at hSw); obtain ⟨z0, z1, z2, z3, z4⟩ := hSw; go_simp; (try (with_reducible rfl)))
    simp only [Act.put, List.getElem_toArray, List.getElem_cons_succ, List.getElem_cons_zero, List.setIfInBounds_toArray, List.set_cons_succ, List.set_cons_zero]
    refine wpAnyH_take (i := 9) (v := ?_) rfl (by kernel_rfl) (by kernel_rfl) (by kernel_rfl) (fun _ _ _ h => h) (Or.inl ⟨by rfl, ?_⟩) (by assumption) ?_
    rotate_left
    · (intro w' hSw; (try dsimp only at hSw); obtain ⟨z0, z1, z2, z3, z4⟩ := hSw; go_simp; (try (with_reducible rfl)))
    simp only [Act.put, List.getElem_toArray, List.getElem_cons_succ, List.getElem_cons_zero, List.setIfInBounds_toArray, List.set_cons_succ, List.set_cons_zero]
    refine wpAnyH_ready (rs := [10]) (by kernel_rfl) (by simp) ?_
    refine AllReadyH.cons rfl (fun K hK => ?_) AllReadyH.nil
    go_simp
    have hk0 : ∀ k, (w5.setCell ⟨P, 5, none⟩ (.slice A5 (n + 1) c5')).cell? ⟨B, k, none⟩ = w5.cell? ⟨B, k, none⟩ := fun k => cell_other w5 (p := P) (q := B) 5 k _ (.inr (fun e => hBP e.symm))
    refine hK.out _ _ ⟨(hk0 0).trans hHeld.1, (hk0 1).trans hHeld.2.1, (hk0 2).trans hHeld.2.2.1, (hk0 3).trans hHeld.2.2.2.1, (hk0 4).trans hHeld.2.2.2.2⟩ (fun hHeld => ?_)
    clear hK K hk0 e5 g5'
    refine wpAnyH_done (by kernel_rfl) ?_ _
    clear hHeld
    generalize w5.setCell ⟨P, 5, none⟩ (.slice A5 (n + 1) c5') = w6 at e6 HM ⊢
    go_wp2
    go_ret
    exact ⟨rfl, HM.out⟩
  refine AllReadyH.cons rfl (fun K hK => ?_) AllReadyH.nil
  go_simp
  have KA := Keeps.one w2.drew (.cells #[.int .i64 d.k, .int .i64 d.ln, .int .i64 d.n, .string sx, .slice a m c] 33)
  refine hK.out _ _ ⟨(KA.cell D0.out.2.1 (fun h => h)).trans hHeld.1, (KA.cell D0.out.2.1 (fun h => h)).trans hHeld.2.1, (KA.cell D0.out.2.1 (fun h => h)).trans hHeld.2.2.1, (KA.cell D0.out.2.1 (fun h => h)).trans hHeld.2.2.2.1, (KA.cell D0.out.2.1 (fun h => h)).trans hHeld.2.2.2.2⟩ (fun hHeld => ?_)
  have d5 := (KA.cell D0.out.2.2 (fun h => h)).trans d5
  clear hK K KA
  refine wpAnyH_ready (rs := [4]) (by kernel_rfl) (by simp) ?_
  refine AllReadyH.cons rfl (fun K hK => ?_) AllReadyH.nil
  go_simp
  refine hK.out _ _ hHeld (fun hHeld => ?_)
  clear hK K
  refine wpAnyH_ready (rs := [7]) (by kernel_rfl) (by simp) ?_
  refine AllReadyH.cons rfl (fun K hK => ?_) AllReadyH.nil
  have K4 := Lib.hid (k3.out.alloc (.cells #[.int .i64 d.k, .int .i64 d.ln, .int .i64 d.n, .string sx, .slice a m c] 33))
  refine step_append_atk (by rfl) (.tmp 13) (.tmp 15) 24 (by rfl) 0 33 i0 _ 5 64 Tryd.underlying24 hi hz0 hz1 hz2 (by rfl) (by omega) (.slice A0 n c0') n (flatN L) (by rfl) (hOwn.out _ K4.out) ⟨w2.drew.heap.size, 0, none⟩ 1 1 x.cells (by rfl) (by rw [XC.out]; rfl) (by have e := XC.out; have hh := news5 (w := w2.drew) x 33; rw [e] at hh ⊢; exact hh) (NM.one x) (by omega) (by omega) (Nat.zero_le _) ?_
  intro v5 w5 h5 g5 b5
  obtain ⟨A5, c5', rfl⟩ := own_formk h5
  have hm := hADD.out _ _ _ K4.out h5 g5 b5
  have HM := Lib.hid hm.2.2
  have e5 := hm.1.1
  have g5' := hm.1.2
  have e6 := hm.2.1
  have ky : ∀ k, w5.cell? ⟨B, k, none⟩ = w2.drew.cell? ⟨B, k, none⟩ := fun k => (World.cell?_of_block (g5.block B (by show B < (World.alloc _ _).heap.size; rw [World.size_alloc]; exact Nat.lt_succ_of_lt D0.out.2.1) (fun e => hBO.out e.symm))).trans ((Keeps.one w2.drew _).cell D0.out.2.1 (fun h => h))
  refine hK.out _ _ ⟨(ky 0).trans Y.out.1, (ky 1).trans Y.out.2.1, (ky 2).trans Y.out.2.2.1, (ky 3).trans Y.out.2.2.2.1, (ky 4).trans Y.out.2.2.2.2⟩ (fun hHeld => ?_)
  clear hK K hm h5 g5 b5 ky K4
  simp only [Act.put, List.getElem_toArray, List.getElem_cons_succ, List.getElem_cons_zero, List.setIfInBounds_toArray, List.set_cons_succ, List.set_cons_zero]
  refine wpAnyH_take (i := 8) (v := ?_) rfl (by kernel_rfl) (by kernel_rfl) (by kernel_rfl) (fun _ _ _ h => h) (Or.inl ⟨by rfl, ?_⟩) (by assumption) ?_
  rotate_left
  · (intro w' hSw; (try dsimp only at hSw); obtain ⟨z0, z1, z2, z3, z4⟩ := hSw; go_simp; (try (with_reducible rfl)))
  simp only [Act.put, List.getElem_toArray, List.getElem_cons_succ, List.getElem_cons_zero, List.setIfInBounds_toArray, List.set_cons_succ, List.set_cons_zero]
  refine wpAnyH_take (i := 9) (v := ?_) rfl (by kernel_rfl) (by kernel_rfl) (by kernel_rfl) (fun _ _ _ h => h) (Or.inl ⟨by rfl, ?_⟩) (by assumption) ?_
  rotate_left
  · (intro w' hSw; (try dsimp only at hSw); obtain ⟨z0, z1, z2, z3, z4⟩ := hSw; go_simp; (try (with_reducible rfl)))
  simp only [Act.put, List.getElem_toArray, List.getElem_cons_succ, List.getElem_cons_zero, List.setIfInBounds_toArray, List.set_cons_succ, List.set_cons_zero]
  refine wpAnyH_ready (rs := [10]) (by kernel_rfl) (by simp) ?_
  refine AllReadyH.cons rfl (fun K hK => ?_) AllReadyH.nil
  go_simp
  have hk0 : ∀ k, (w5.setCell ⟨P, 5, none⟩ (.slice A5 (n + 1) c5')).cell? ⟨B, k, none⟩ = w5.cell? ⟨B, k, none⟩ := fun k => cell_other w5 (p := P) (q := B) 5 k _ (.inr (fun e => hBP e.symm))
  refine hK.out _ _ ⟨(hk0 0).trans hHeld.1, (hk0 1).trans hHeld.2.1, (hk0 2).trans hHeld.2.2.1, (hk0 3).trans hHeld.2.2.2.1, (hk0 4).trans hHeld.2.2.2.2⟩ (fun hHeld => ?_)
  clear hK K hk0 e5 g5'
  refine wpAnyH_done (by kernel_rfl) ?_ _
  clear hHeld
  generalize w5.setCell ⟨P, 5, none⟩ (.slice A5 (n + 1) c5') = w6 at e6 HM ⊢
  go_wp2
  go_ret
  exact ⟨rfl, HM.out⟩
end Go.Proofs.YtgelggdgbmldiaaDoor
