/-
  Layer 2: how the cursor goes on, and fails. Written by an AI agent.
-/
import Derived.Test.YtgelggdgbmldiaaDoorPaD
import Derived.Test.YtgelggdgbmldiaaDoorPaE
namespace Go.Proofs.YtgelggdgbmldiaaDoor
open Go Go.RowKit Go.Shelf
set_option linter.unusedVariables false
set_option linter.unusedSimpArgs false

theorem ParX.more {w : World} {P : Nat} {src : ByteArray} {T : List Tok} {A : Option Addr} {cT : Nat} {R : Nat → Prop} {s : PS} {v : Value} {L : List NM} (h : ParX w P src T A cT R s v L) (hk : (tokA T s).k ≠ 0) : s.i < T.length - 1 := by
  have h1 := h.hi
  have h2 := h.ok.last
  rcases Nat.lt_or_ge s.i (T.length - 1) with h3 | h3
  · exact h3
  · exfalso
    have h4 : s.i = T.length - 1 := by omega
    apply hk
    unfold tokA
    rw [h4]
    exact h2
theorem Par.more {w : World} {P : Nat} {src : ByteArray} {T : List Tok} {R : Nat → Prop} {s : PS} (h : Par w P src T R s) (hk : (tokA T s).k ≠ 0) : s.i < T.length - 1 := by
  obtain ⟨A, cT, v, L, h⟩ := h
  exact h.more hk
theorem Par.post {w w' : World} {P : Nat} {src : ByteArray} {T : List Tok} {R : Nat → Prop} {s : PS} (h : Par w P src T R s) (k : Keeps (fun _ => False) w w') (r : Value) : Post P src T R w r s (.returned r) w' :=
  ⟨rfl, R, h.keep k, (Fr.refl R w).keeps k⟩
theorem Par.setI {w : World} {P : Nat} {src : ByteArray} {T : List Tok} {R : Nat → Prop} {s : PS} (h : Par w P src T R s) (i : Nat) (hi : i < T.length) : Par (w.setCell ⟨P, 2, none⟩ (.int .i64 (i : Int))) P src T R { s with i := i } ∧ Fr R w R (w.setCell ⟨P, 2, none⟩ (.int .i64 (i : Int))) := by
  obtain ⟨A, cT, v, L, h⟩ := h
  have h2 := h.set (s' := { s with i := i }) 2 (i : Int) (.inl ⟨rfl, rfl, rfl, rfl, rfl⟩) rfl hi
  exact ⟨⟨A, cT, v, L, h2.1⟩, h2.2⟩
theorem Par.setPl {w : World} {P : Nat} {src : ByteArray} {T : List Tok} {R : Nat → Prop} {s : PS} (h : Par w P src T R s) (i : Nat) : Par (w.setCell ⟨P, 3, none⟩ (.int .i64 (i : Int))) P src T R { s with pl := i } ∧ Fr R w R (w.setCell ⟨P, 3, none⟩ (.int .i64 (i : Int))) := by
  obtain ⟨A, cT, v, L, h⟩ := h
  have h2 := h.set (s' := { s with pl := i }) 3 (i : Int) (.inr (.inl ⟨rfl, rfl, rfl, rfl, rfl⟩)) rfl h.hi
  exact ⟨⟨A, cT, v, L, h2.1⟩, h2.2⟩
theorem Par.setEr {w : World} {P : Nat} {src : ByteArray} {T : List Tok} {R : Nat → Prop} {s : PS} (h : Par w P src T R s) (i : Nat) : Par (w.setCell ⟨P, 4, none⟩ (.int .i64 (i : Int))) P src T R { s with er := i } ∧ Fr R w R (w.setCell ⟨P, 4, none⟩ (.int .i64 (i : Int))) := by
  obtain ⟨A, cT, v, L, h⟩ := h
  have h2 := h.set (s' := { s with er := i }) 4 (i : Int) (.inr (.inr (.inl ⟨rfl, rfl, rfl, rfl, rfl⟩))) rfl h.hi
  exact ⟨⟨A, cT, v, L, h2.1⟩, h2.2⟩
theorem Par.setDp {w : World} {P : Nat} {src : ByteArray} {T : List Tok} {R : Nat → Prop} {s : PS} (h : Par w P src T R s) (d : Int) : Par (w.setCell ⟨P, 6, none⟩ (.int .i64 d)) P src T R { s with dp := d } ∧ Fr R w R (w.setCell ⟨P, 6, none⟩ (.int .i64 d)) := by
  obtain ⟨A, cT, v, L, h⟩ := h
  have h2 := h.set (s' := { s with dp := d }) 6 d (.inr (.inr (.inr ⟨rfl, rfl, rfl, rfl, rfl⟩))) rfl h.hi
  exact ⟨⟨A, cT, v, L, h2.1⟩, h2.2⟩

/-- What a walk reads of a parser in memory. -/
structure See (w : World) (P : Nat) (src : ByteArray) (i pl er : Nat) (dp : Int) (n : Nat) : Prop where
  c0 : w.cell? ⟨P, 0, none⟩ = some (.string src)
  c1 : ∃ A cT, w.cell? ⟨P, 1, none⟩ = some (.slice A n cT)
  c2 : w.cell? ⟨P, 2, none⟩ = some (.int .i64 (i : Int))
  c3 : w.cell? ⟨P, 3, none⟩ = some (.int .i64 (pl : Int))
  c4 : w.cell? ⟨P, 4, none⟩ = some (.int .i64 (er : Int))
  c6 : w.cell? ⟨P, 6, none⟩ = some (.int .i64 dp)
  fz : ∀ k, w.frozen? ⟨P, k, none⟩ = false
theorem Par.see {w : World} {P : Nat} {src : ByteArray} {T : List Tok} {R : Nat → Prop} {s : PS} (h : Par w P src T R s) : See w P src s.i s.pl s.er s.dp T.length := by
  obtain ⟨A, cT, v, L, h⟩ := h
  exact ⟨h.c0, ⟨A, cT, h.c1⟩, h.c2, h.c3, h.c4, h.c6, h.fz⟩
theorem Par.hi {w : World} {P : Nat} {src : ByteArray} {T : List Tok} {R : Nat → Prop} {s : PS} (h : Par w P src T R s) : s.i < T.length := by
  obtain ⟨A, cT, v, L, h⟩ := h
  exact h.hi
theorem Par.ok {w : World} {P : Nat} {src : ByteArray} {T : List Tok} {R : Nat → Prop} {s : PS} (h : Par w P src T R s) : TokOK T := by
  obtain ⟨A, cT, v, L, h⟩ := h
  exact h.ok
set_option maxRecDepth 100000 in
set_option maxHeartbeats 8000000 in
theorem next_any {P : Nat} {src : ByteArray} {T : List Tok} {R : Nat → Prop} {s : PS} {w : World} (h : Par w P src T R s) : Calls Tryd.prog 53 #[.pointer (some ⟨P, 0, none⟩)] w (Post P src T R w (.tuple #[]) (nextS T s)) := by
  have H := Lib.hid h
  have sw := h.see
  have hi := h.hi
  have hle := h.ok.le
  obtain ⟨A, cT, c1⟩ := sw.c1
  have c2 := sw.c2
  obtain ⟨i, hI⟩ : ∃ i, i = s.i := ⟨_, rfl⟩
  obtain ⟨n, hn⟩ : ∃ n, n = T.length := ⟨_, rfl⟩
  rw [← hI] at c2 hi
  rw [← hn] at c1 hi hle
  have n1 : IntKind.i64.wrap ((n : Int) - 1) = (n : Int) - 1 := IntWalk.i64_in _ (by omega)
  by_cases hlt : i < n - 1
  · have hE : nextS T s = { s with i := i + 1 } := by unfold nextS; rw [← hI, ← hn, if_pos hlt]
    have i1 : IntKind.i64.wrap ((i : Int) + 1) = (i : Int) + 1 := IntWalk.i64_in _ (by omega)
    have hltI : (i : Int) < (n : Int) - 1 := by omega
    have hd : decide ((i : Int) < (n : Int) - 1) = true := decide_eq_true hltI
    have hfin : Hid (∀ w1, Keeps (fun _ => False) w w1 → Post P src T R w (.tuple #[]) (nextS T s) (.returned (.tuple #[])) (w1.setCell ⟨P, 2, none⟩ (.int .i64 ((i : Int) + 1)))) := Lib.hid fun w1 k => by
      rw [hE]
      have h1 := (H.out.keep k).setI (i + 1) (by rw [← hn]; omega)
      rw [show ((i + 1 : Nat) : Int) = (i : Int) + 1 by omega] at h1
      exact ⟨rfl, R, h1.1, (((Fr.refl R w).keeps k).trans h1.2)⟩
    have SEE : Hid (∀ w1, Keeps (fun _ => False) w w1 → w1.cell? ⟨P, 2, none⟩ = some (.int .i64 (i : Int)) ∧ w1.frozen? ⟨P, 2, none⟩ = false) := Lib.hid fun w1 k => by
      have := (H.out.keep k).see
      rw [hI]
      exact ⟨this.c2, this.fz 2⟩
    clear hE hI hn H hi sw h
    go_enter Tryd.func53, Tryd.ntmps53
    go_wp2_with fail
    go_quiet (fail)
    have kd := drew_keeps w nq
    generalize w.drewN nq = w1 at *
    clear c1 c2
    obtain ⟨c2, f2⟩ := SEE.out w1 kd
    go_wp2
    exact bodyPost_end (v := .tuple #[]) (by simp [results, Tryd.results53, go_sem]) rfl (hfin.out w1 kd)
  · have hE : nextS T s = s := by unfold nextS; rw [← hI, ← hn, if_neg hlt]
    have hltI : ¬ (i : Int) < (n : Int) - 1 := by omega
    have hd : decide ((i : Int) < (n : Int) - 1) = false := decide_eq_false hltI
    have hfin : Hid (∀ w1, Keeps (fun _ => False) w w1 → Post P src T R w (.tuple #[]) (nextS T s) (.returned (.tuple #[])) w1) := Lib.hid fun w1 k => by
      rw [hE]
      exact H.out.post k _
    clear hE hI hn H hi sw h
    go_enter Tryd.func53, Tryd.ntmps53
    go_wp2_with fail
    go_quiet (fail)
    have kd := drew_keeps w nq
    generalize w.drewN nq = w1 at *
    clear c1 c2
    go_wp2
    exact bodyPost_end (v := .tuple #[]) (by simp [results, Tryd.results53, go_sem]) rfl (hfin.out w1 kd)
set_option maxRecDepth 100000 in
set_option maxHeartbeats 8000000 in
theorem fail_any {P : Nat} {src : ByteArray} {T : List Tok} {R : Nat → Prop} {s : PS} {w : World} (h : Par w P src T R s) (e : Nat) : Calls Tryd.prog 79 #[.pointer (some ⟨P, 0, none⟩), .int .i64 (e : Int)] w (Post P src T R w (.tuple #[]) (failS T e s)) := by
  have H := Lib.hid h
  have sw := h.see
  have hle := h.ok.le
  have hne := h.ok.ne
  have c4 := sw.c4
  obtain ⟨n, hn⟩ : ∃ n, n = T.length := ⟨_, rfl⟩
  rw [← hn] at hle hne
  by_cases he : s.er = 0
  · have hE : failS T e s = { s with pl := (tokA T s).p, er := e, i := n - 1 } := by unfold failS; rw [if_pos he, ← hn]
    have NC : Hid (Calls Tryd.prog 25 #[.pointer (some ⟨P, 0, none⟩)] w fun e w' => e = .returned (.agg #[.int .i64 ((tokA T s).k : Int), .string (ofL (tokA T s).x), .int .i64 ((tokA T s).p : Int)]) ∧ Keeps (fun _ => False) w w') := Lib.hid (now_any h)
    have n1 : IntKind.i64.wrap ((n : Int) - 1) = (n : Int) - 1 := IntWalk.i64_in _ (by omega)
    obtain ⟨tk, htk⟩ : ∃ tk, tk = tokA T s := ⟨_, rfl⟩
    rw [← htk] at NC hE
    have hfin : Hid (∀ w1, Keeps (fun _ => False) w w1 → Post P src T R w (.tuple #[]) (failS T e s) (.returned (.tuple #[])) (((w1.setCell ⟨P, 3, none⟩ (.int .i64 (tk.p : Int))).setCell ⟨P, 4, none⟩ (.int .i64 (e : Int))).setCell ⟨P, 2, none⟩ (.int .i64 ((n : Int) - 1)))) := Lib.hid fun w1 k => by
      rw [hE]
      have h1 := (H.out.keep k).setPl tk.p
      have h2 := h1.1.setEr e
      have h3 := h2.1.setI (n - 1) (by rw [← hn]; omega)
      rw [show ((n - 1 : Nat) : Int) = (n : Int) - 1 by omega] at h3
      exact ⟨rfl, R, h3.1, ((((Fr.refl R w).keeps k).trans h1.2).trans h2.2).trans h3.2⟩
    have SEE : Hid (∀ w1, Keeps (fun _ => False) w w1 → ∃ A cT, w1.cell? ⟨P, 1, none⟩ = some (.slice A n cT) ∧ w1.cell? ⟨P, 2, none⟩ = some (.int .i64 (s.i : Int)) ∧ w1.cell? ⟨P, 3, none⟩ = some (.int .i64 (s.pl : Int)) ∧ w1.cell? ⟨P, 4, none⟩ = some (.int .i64 (s.er : Int)) ∧ w1.frozen? ⟨P, 2, none⟩ = false ∧ w1.frozen? ⟨P, 3, none⟩ = false ∧ w1.frozen? ⟨P, 4, none⟩ = false) := Lib.hid fun w1 k => by
      have := (H.out.keep k).see
      rw [hn]
      obtain ⟨A, cT, c1⟩ := this.c1
      exact ⟨A, cT, c1, this.c2, this.c3, this.c4, this.fz 2, this.fz 3, this.fz 4⟩
    rw [he] at c4
    have F2 : ∀ w, Sem.run Tryd.prog (Instr.field 54 (.agg #[.int .i64 (tk.k : Int), .string (ofL tk.x), .int .i64 (tk.p : Int)]) 2) w = .ok (.int .i64 (tk.p : Int)) w := fun w => tok_field2 _ _ _ w
    clear hE H sw h htk hn he
    go_enter Tryd.func79, Tryd.ntmps79
    go_wp2_with fail
    refine NC.out.mono ?_
    rintro e w1 ⟨rfl, k1⟩
    obtain ⟨A, cT, d1, d2, d3, d4, f2, f3, f4⟩ := SEE.out w1 k1
    have HF := Lib.hid (hfin.out w1 k1)
    clear k1 c4 SEE hfin NC
    go_wp2
    exact bodyPost_end (v := .tuple #[]) (by simp [results, Tryd.results79, go_sem]) rfl HF.out
  · have hE : failS T e s = s := by unfold failS; rw [if_neg he]
    have heI : ¬ (s.er : Int) = 0 := by omega
    have hd : ((s.er : Int) == 0) = false := by simpa using heI
    have hfin : Hid (Post P src T R w (.tuple #[]) (failS T e s) (.returned (.tuple #[])) w) := Lib.hid (by rw [hE]; exact H.out.post (Keeps.refl _ _) _)
    generalize s.er = er at c4 heI hd
    clear hE H sw h hn he
    go_enter Tryd.func79, Tryd.ntmps79
    go_wp2_with fail
    exact bodyPost_end (v := .tuple #[]) (by simp [results, Tryd.results79, go_sem]) rfl hfin.out
end Go.Proofs.YtgelggdgbmldiaaDoor
