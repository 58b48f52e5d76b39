/-
  Layer 2: the document's reader: fails. Written by an AI agent.
  Layer 1: the contracts of the document's digit, letter, Word, Line, number. Written by an AI agent.
  Layer 2: the document's reader: must, name, line, word, calls, down, Type, typed. Written by an AI agent.
  Layer 2: inside, variable, ended. Written by an AI agent.
-/
import Derived.Test.YtgelggdgbmldiaaGreatDoorMaaf
import Derived.Test.YtgelggdgbmldiaaGreatDoorMaad
import Derived.Deep.RegionHeld
namespace Go.Proofs.YtgelggdgbmldiaaGreatDoor
open Go Go.RowKit Go.Shelf
set_option linter.unusedVariables false
set_option linter.unusedSimpArgs false


set_option maxRecDepth 100000 in
set_option maxHeartbeats 8000000 in
theorem fails_any {P : Nat} {src : ByteArray} {T : List Tok} {R : Nat → Prop} {s : PS} {w : World} (h : Red w P src T R s) (e : Nat) : Calls Tryz.prog 64 #[.pointer (some ⟨P, 0, none⟩), .int .i64 (e : Int)] w (PostR P src T R w (.tuple #[]) (failR T e s)) := by
  have H := Lib.hid h
  obtain ⟨b, off, cT, hbP, c1, hc⟩ := h.toks
  have sw := h.see
  have hi := h.hi
  have hle := h.ok.le
  obtain ⟨t0, t1, t2⟩ := hc s.i hi
  have hb := cell_ltk t0
  have hP := h.lo
  have c2 := sw.c2
  have c5 := sw.c5
  have c6 := sw.c6
  have f5 := sw.fz 5
  have f6 := sw.fz 6
  by_cases he : s.er = 0
  · have hE : failR T e s = { s with pl := (tokA T s).p, er := e } := by unfold failR; rw [if_pos he]
    have hfin : Hid (∀ w1, Keeps (fun _ => False) ((w.setCell ⟨P, 5, none⟩ (.int .i64 (e : Int))).setCell ⟨P, 6, none⟩ (.int .i64 (((T.getD s.i default).p : Nat) : Int))) w1 → PostR P src T R w (.tuple #[]) (failR T e s) (.returned (.tuple #[])) w1) := Lib.hid fun w1 k => by
      rw [hE]
      have h1 := H.out.setEr e
      have h2 := h1.1.setPl (T.getD s.i default).p
      exact ⟨rfl, R, h2.1.keep k, (h1.2.trans h2.2).keeps k⟩
    rw [he] at c5
    obtain ⟨i, hI⟩ : ∃ i, i = s.i := ⟨_, rfl⟩
    obtain ⟨n, hn⟩ : ∃ n, n = T.length := ⟨_, rfl⟩
    rw [← hI] at c2 hi t0 t1 t2
    rw [← hI] at hfin
    rw [← hn] at c1 hi hle
    generalize hpp : (((T.getD i default).p : Nat) : Int) = tp at t2 hfin
    generalize (s.pl : Int) = pl0 at c6
    have h0 : (0 : Int) ≤ (i : Int) := by omega
    have h1 : (i : Int) < (n : Int) := by omega
    clear hE hI hn hc H h sw he t0 t1 hpp
    go_enter Tryz.func64, Tryz.ntmps64
    go_upto_region 2 with fail
    have e1 := (cell_other w (p := P) (q := P) 5 1 (.int .i64 (e : Int)) (.inl (by omega))).trans c1
    have e2 := (cell_other w (p := P) (q := P) 5 2 (.int .i64 (e : Int)) (.inl (by omega))).trans c2
    have e6 := (cell_other w (p := P) (q := P) 5 6 (.int .i64 (e : Int)) (.inl (by omega))).trans c6
    have g6 : (w.setCell ⟨P, 5, none⟩ (.int .i64 (e : Int))).frozen? ⟨P, 6, none⟩ = false := (World.frozen?_setCell w _ _ _).trans f6
    have u2 := (cell_other w (p := P) (q := b) 5 (off + i * 3 + 2) (.int .i64 (e : Int)) (.inr (fun h => hbP h.symm))).trans t2
    obtain ⟨w1, hw1⟩ : ∃ w1, w1 = w.setCell ⟨P, 5, none⟩ (.int .i64 (e : Int)) := ⟨_, rfl⟩
    rw [← hw1] at e1 e2 e6 g6 u2 hfin ⊢
    clear hw1 c1 c2 c5 c6 f5 f6 t2
    go_region
    all_goals go_wp2_with fail
    all_goals exact bodyPost_end (v := .tuple #[]) (by simp [results, Tryz.results64, go_sem]) rfl (hfin.out _ (by first | exact (Keeps.refl _ _) | exact (Keeps.refl _ _).drew))
  · have hE : failR T e s = s := by unfold failR; rw [if_neg he]
    have hne : ((s.er : Int) == 0) = false := by simp; omega
    have hfin : Hid (∀ w1, Keeps (fun _ => False) w w1 → PostR P src T R w (.tuple #[]) (failR T e s) (.returned (.tuple #[])) w1) := Lib.hid fun w1 k => by
      rw [hE]
      exact ⟨rfl, R, H.out.keep k, (Fr.refl R w).keeps k⟩
    generalize (s.er : Int) = er at *
    clear hE hc H h sw t0 t1 t2 c1 c2 c6 he
    go_enter Tryz.func64, Tryz.ntmps64
    go_wp2_with fail
    exact bodyPost_end (v := .tuple #[]) (by simp [results, Tryz.results64, go_sem]) rfl (hfin.out _ (Keeps.refl _ _))

set_option maxRecDepth 100000 in
set_option maxHeartbeats 8000000 in
theorem ris_any {P : Nat} {src : ByteArray} {T : List Tok} {R : Nat → Prop} {s : PS} {w : World} (h : Red w P src T R s) (x : ByteArray) : Calls Tryz.prog 39 #[.pointer (some ⟨P, 0, none⟩), .string x] w fun e w' => e = .returned (.bool (isR T x.data.toList s)) ∧ Keeps (fun _ => False) w w' := by
  have H := Lib.hid h
  obtain ⟨b, off, cT, hbP, c1, hc⟩ := h.toks
  have sw := h.see
  have hi := h.hi
  have hle := h.ok.le
  obtain ⟨t0, t1, t2⟩ := hc s.i hi
  have hb := cell_ltk t0
  have hP := h.lo
  have c2 := sw.c2
  have c5 := sw.c5
  obtain ⟨i, hI⟩ : ∃ i, i = s.i := ⟨_, rfl⟩
  obtain ⟨n, hn⟩ : ∃ n, n = T.length := ⟨_, rfl⟩
  have hv : isR T x.data.toList s = (decide ((s.er : Int) = 0) && ((decide (((T.getD s.i default).k : Int) = 5) || decide (((T.getD s.i default).k : Int) = 4)) && decide (ofL (T.getD s.i default).x = x))) := by
    unfold isR tokA
    rw [list_beq, ofL_list]
    congr 1
    · exact decide_eq_decide.2 (by omega)
    · congr 1
      congr 1
      · exact decide_eq_decide.2 (by omega)
      · exact decide_eq_decide.2 (by omega)
  rw [hv]
  rw [← hI] at c2 hi t0 t1 t2 ⊢
  rw [← hn] at c1 hi hle
  generalize ((T.getD i default).k : Int) = tk at t0 ⊢
  generalize ofL (T.getD i default).x = tx at t1 ⊢
  generalize ((T.getD i default).p : Int) = tp at t2
  generalize (s.er : Int) = er at c5 ⊢
  have h0 : (0 : Int) ≤ (i : Int) := by omega
  have h1 : (i : Int) < (n : Int) := by omega
  clear hv hI hn hc H h sw
  have hq : (tx.toList == x.toList) = decide (tx = x) := by rw [word_beq, list_beq, toList_data]
  have walk : ∀ r : Bool, ((er ≠ 0 ∧ r = false) ∨ (er = 0 ∧ tk = 5 ∧ r = (tx.toList == x.toList)) ∨ (er = 0 ∧ tk ≠ 5 ∧ tk = 4 ∧ r = (tx.toList == x.toList)) ∨ (er = 0 ∧ tk ≠ 5 ∧ tk ≠ 4 ∧ r = false)) → Calls Tryz.prog 39 #[.pointer (some ⟨P, 0, none⟩), .string x] w fun e w' => e = .returned (.bool r) ∧ Keeps (fun _ => False) w w' := by
    intro r hr
    have HRR := Lib.hid hr
    clear hr hq
    go_enter Tryz.func39, Tryz.ntmps39
    go_wp2_with fail
    have k1 : Keeps (fun _ => False) w (w.alloc (.cells #[.int .i64 tk, .string tx, .int .i64 tp] 38)).drew := ((Keeps.refl _ _).alloc _).drew
    have z := Loc.new (w := w) (R := fun _ => False) (fun h => h) [.int .i64 tk, .string tx, .int .i64 tp] 38
    have z0 : (w.alloc (.cells #[.int .i64 tk, .string tx, .int .i64 tp] 38)).drew.cell? ⟨w.heap.size, 0, none⟩ = some (.int .i64 tk) := z.cells 0 _ rfl
    have z1 : (w.alloc (.cells #[.int .i64 tk, .string tx, .int .i64 tp] 38)).drew.cell? ⟨w.heap.size, 1, none⟩ = some (.string tx) := z.cells 1 _ rfl
    have d5 := (k1.cell hP (fun h => h)).trans c5
    have K1 := Lib.hid k1
    have Z := Lib.hid (And.intro z0 (And.intro z1 d5))
    clear k1 z z0 z1 d5 c5
    go_region
    obtain ⟨z0, z1, c5⟩ := Z.out
    clear Z
    generalize w.heap.size = X at *
    generalize (w.alloc (.cells #[.int .i64 tk, .string tx, .int .i64 tp] 38)).drew = w2 at *
    clear c1 c2 t0 t1 t2 hle hi h0 h1
    rcases HRR.out with ⟨h, rfl⟩ | ⟨rfl, rfl, rfl⟩ | ⟨rfl, h5, rfl, rfl⟩ | ⟨rfl, h5, h4, rfl⟩
    · have d := (show (er == 0) = false by simpa using h)
      go_wp2_with fail
      go_ret
      exact ⟨rfl, K1.out⟩
    · go_wp2_with fail
      go_ret
      exact ⟨rfl, K1.out⟩
    · go_wp2_with fail
      go_ret
      exact ⟨rfl, K1.out⟩
    · have d5 := (show (tk == 5) = false by simpa using h5)
      have d4 := (show (tk == 4) = false by simpa using h4)
      go_wp2_with fail
      go_ret
      exact ⟨rfl, K1.out⟩
  by_cases he : er = 0
  · rw [decide_eq_true he, Bool.true_and]
    by_cases h5 : tk = 5
    · rw [decide_eq_true h5, Bool.true_or, Bool.true_and]
      exact walk _ (.inr (.inl ⟨he, h5, hq.symm⟩))
    · by_cases h4 : tk = 4
      · rw [decide_eq_true h4, Bool.or_true, Bool.true_and]
        exact walk _ (.inr (.inr (.inl ⟨he, h5, h4, hq.symm⟩)))
      · rw [decide_eq_false h5, decide_eq_false h4, Bool.or_false, Bool.false_and]
        exact walk _ (.inr (.inr (.inr ⟨he, h5, h4, rfl⟩)))
  · rw [decide_eq_false he, Bool.false_and]
    exact walk _ (.inl ⟨he, rfl⟩)

/-- A token, as a walk reads it. -/
theorem Red.tokAt {P : Nat} {src : ByteArray} {T : List Tok} {R : Nat → Prop} {s : PS} {w : World} (h : Red w P src T R s) (j : Nat) (hj : j < T.length) : ∃ b off cT, b ≠ P ∧ w.cell? ⟨P, 1, none⟩ = some (.slice (some ⟨b, off, none⟩) T.length cT) ∧ w.cell? ⟨b, off + j * 3, none⟩ = some (.int .i64 ((T.getD j default).k : Int)) ∧ w.cell? ⟨b, off + j * 3 + 1, none⟩ = some (.string (ofL (T.getD j default).x)) ∧ w.cell? ⟨b, off + j * 3 + 2, none⟩ = some (.int .i64 ((T.getD j default).p : Int)) := by
  obtain ⟨b, off, cT, hb, c1, hc⟩ := h.toks
  exact ⟨b, off, cT, hb, c1, hc j hj⟩
set_option maxRecDepth 100000 in
set_option maxHeartbeats 8000000 in
theorem rkind_any {P : Nat} {src : ByteArray} {T : List Tok} {R : Nat → Prop} {s : PS} {w : World} (h : Red w P src T R s) (k : Nat) : Calls Tryz.prog 17 #[.pointer (some ⟨P, 0, none⟩), .int .i64 (k : Int)] w fun e w' => e = .returned (.bool (kindR T k s)) ∧ Keeps (fun _ => False) w w' := by
  have H := Lib.hid h
  obtain ⟨b, off, cT, hbP, c1, hc⟩ := h.toks
  have sw := h.see
  have hi := h.hi
  have hle := h.ok.le
  obtain ⟨t0, t1, t2⟩ := hc s.i hi
  have hb := cell_ltk t0
  have hP := h.lo
  have c2 := sw.c2
  have c5 := sw.c5
  obtain ⟨i, hI⟩ : ∃ i, i = s.i := ⟨_, rfl⟩
  obtain ⟨n, hn⟩ : ∃ n, n = T.length := ⟨_, rfl⟩
  have hv : kindR T k s = (decide ((s.er : Int) = 0) && decide (((T.getD s.i default).k : Int) = (k : Int))) := by
    unfold kindR tokA
    congr 1
    · exact decide_eq_decide.2 (by omega)
    · exact decide_eq_decide.2 (by omega)
  rw [hv]
  rw [← hI] at c2 hi t0 t1 t2 ⊢
  rw [← hn] at c1 hi hle
  generalize ((T.getD i default).k : Int) = tk at t0 ⊢
  generalize (s.er : Int) = er at c5 ⊢
  generalize (k : Int) = kk
  have h0 : (0 : Int) ≤ (i : Int) := by omega
  have h1 : (i : Int) < (n : Int) := by omega
  clear hv hI hn hc H h sw t1 t2
  by_cases he : er = 0
  · subst he
    have ed : (decide ((0 : Int) = 0) && decide (tk = kk)) = (tk == kk) := by rw [decide_eq_true rfl, Bool.true_and]; rfl
    rw [ed]
    go_enter Tryz.func17, Tryz.ntmps17
    go_wp2_with fail
    go_quiet (fail)
    have kd := drew_keeps w nq
    generalize w.drewN nq = w1 at *
    clear c1 c2 c5 t0
    go_wp2_with fail
    go_ret
    exact ⟨rfl, kd⟩
  · have ed : (decide (er = 0) && decide (tk = kk)) = false := by rw [decide_eq_false he, Bool.false_and]
    have d := (show (er == 0) = false by simpa using he)
    rw [ed]
    go_enter Tryz.func17, Tryz.ntmps17
    go_wp2_with fail
    go_quiet (fail)
    have kd := drew_keeps w nq
    generalize w.drewN nq = w1 at *
    clear c1 c2 c5 t0
    go_wp2_with fail
    go_ret
    exact ⟨rfl, kd⟩
end Go.Proofs.YtgelggdgbmldiaaGreatDoor

namespace Go.Proofs.YtgelggdgbmldiaaGreatDoor
open Go.RowKit Go.Shelf
set_option linter.unusedVariables false
set_option linter.unusedSimpArgs false

/-- A function that tells of each byte whether it is of a kind, and leaves the world as it is. -/
def TellsQ (f : Nat) (p : UInt8 → Bool) : Prop := ∀ (w : World) (c : UInt8), Calls Tryz.prog f #[.int .u8 (c.toNat : Int)] w fun e w' => e = .returned (.bool (p c)) ∧ w' = w

set_option maxHeartbeats 1000000 in
theorem rdig : TellsQ 42 dig := fun w c => by
  have hc := u8_lt c
  by_cases h0 : 48 ≤ c.toNat
  · by_cases h1 : c.toNat ≤ 57
    · have hv : dig c = true := by unfold dig; simp only [Bool.and_eq_true, Bool.or_eq_true, decide_eq_true_eq, Bool.not_eq_true', decide_eq_false_iff_not]; omega
      rw [hv]
      clear hv
      generalize c.toNat = n at *
      have e0 : (48 : Int) ≤ (n : Int) := by omega
      have f0 : decide ((48 : Int) ≤ (n : Int)) = true := decide_eq_true e0
      have e1 : (n : Int) ≤ 57 := by omega
      have f1 : decide ((n : Int) ≤ 57) = true := decide_eq_true e1
      go_enter Tryz.func42, Tryz.ntmps42
      go_wp2
      go_ret
      exact ⟨rfl, rfl⟩
    · have hv : dig c = false := Bool.eq_false_iff.2 (fun h => by unfold dig at h; simp only [Bool.and_eq_true, Bool.or_eq_true, decide_eq_true_eq, Bool.not_eq_true', decide_eq_false_iff_not] at h; omega)
      rw [hv]
      clear hv
      generalize c.toNat = n at *
      have e0 : (48 : Int) ≤ (n : Int) := by omega
      have f0 : decide ((48 : Int) ≤ (n : Int)) = true := decide_eq_true e0
      have e1 : ¬ (n : Int) ≤ 57 := by omega
      have f1 : decide ((n : Int) ≤ 57) = false := decide_eq_false e1
      go_enter Tryz.func42, Tryz.ntmps42
      go_wp2
      go_ret
      exact ⟨rfl, rfl⟩
  · have hv : dig c = false := Bool.eq_false_iff.2 (fun h => by unfold dig at h; simp only [Bool.and_eq_true, Bool.or_eq_true, decide_eq_true_eq, Bool.not_eq_true', decide_eq_false_iff_not] at h; omega)
    rw [hv]
    clear hv
    generalize c.toNat = n at *
    have e0 : ¬ (48 : Int) ≤ (n : Int) := by omega
    have f0 : decide ((48 : Int) ≤ (n : Int)) = false := decide_eq_false e0
    go_enter Tryz.func42, Tryz.ntmps42
    go_wp2
    go_ret
    exact ⟨rfl, rfl⟩

set_option maxHeartbeats 1000000 in
theorem rltr : TellsQ 44 ltr := fun w c => by
  have hc := u8_lt c
  by_cases h0 : 97 ≤ c.toNat
  · by_cases h1 : c.toNat ≤ 122
    · have hv : ltr c = true := by unfold ltr; simp only [Bool.and_eq_true, Bool.or_eq_true, decide_eq_true_eq, Bool.not_eq_true', decide_eq_false_iff_not]; omega
      rw [hv]
      clear hv
      generalize c.toNat = n at *
      have e0 : (97 : Int) ≤ (n : Int) := by omega
      have f0 : decide ((97 : Int) ≤ (n : Int)) = true := decide_eq_true e0
      have e1 : (n : Int) ≤ 122 := by omega
      have f1 : decide ((n : Int) ≤ 122) = true := decide_eq_true e1
      go_enter Tryz.func44, Tryz.ntmps44
      go_wp2
      go_ret
      exact ⟨rfl, rfl⟩
    · by_cases h2 : 65 ≤ c.toNat
      · by_cases h3 : c.toNat ≤ 90
        · exfalso; omega
        · have hv : ltr c = false := Bool.eq_false_iff.2 (fun h => by unfold ltr at h; simp only [Bool.and_eq_true, Bool.or_eq_true, decide_eq_true_eq, Bool.not_eq_true', decide_eq_false_iff_not] at h; omega)
          rw [hv]
          clear hv
          generalize c.toNat = n at *
          have e0 : (97 : Int) ≤ (n : Int) := by omega
          have f0 : decide ((97 : Int) ≤ (n : Int)) = true := decide_eq_true e0
          have e1 : ¬ (n : Int) ≤ 122 := by omega
          have f1 : decide ((n : Int) ≤ 122) = false := decide_eq_false e1
          have e2 : (65 : Int) ≤ (n : Int) := by omega
          have f2 : decide ((65 : Int) ≤ (n : Int)) = true := decide_eq_true e2
          have e3 : ¬ (n : Int) ≤ 90 := by omega
          have f3 : decide ((n : Int) ≤ 90) = false := decide_eq_false e3
          go_enter Tryz.func44, Tryz.ntmps44
          go_wp2
          go_ret
          exact ⟨rfl, rfl⟩
      · exfalso; omega
  · by_cases h1 : 65 ≤ c.toNat
    · by_cases h2 : c.toNat ≤ 90
      · have hv : ltr c = true := by unfold ltr; simp only [Bool.and_eq_true, Bool.or_eq_true, decide_eq_true_eq, Bool.not_eq_true', decide_eq_false_iff_not]; omega
        rw [hv]
        clear hv
        generalize c.toNat = n at *
        have e0 : ¬ (97 : Int) ≤ (n : Int) := by omega
        have f0 : decide ((97 : Int) ≤ (n : Int)) = false := decide_eq_false e0
        have e1 : (65 : Int) ≤ (n : Int) := by omega
        have f1 : decide ((65 : Int) ≤ (n : Int)) = true := decide_eq_true e1
        have e2 : (n : Int) ≤ 90 := by omega
        have f2 : decide ((n : Int) ≤ 90) = true := decide_eq_true e2
        go_enter Tryz.func44, Tryz.ntmps44
        go_wp2
        go_ret
        exact ⟨rfl, rfl⟩
      · have hv : ltr c = false := Bool.eq_false_iff.2 (fun h => by unfold ltr at h; simp only [Bool.and_eq_true, Bool.or_eq_true, decide_eq_true_eq, Bool.not_eq_true', decide_eq_false_iff_not] at h; omega)
        rw [hv]
        clear hv
        generalize c.toNat = n at *
        have e0 : ¬ (97 : Int) ≤ (n : Int) := by omega
        have f0 : decide ((97 : Int) ≤ (n : Int)) = false := decide_eq_false e0
        have e1 : (65 : Int) ≤ (n : Int) := by omega
        have f1 : decide ((65 : Int) ≤ (n : Int)) = true := decide_eq_true e1
        have e2 : ¬ (n : Int) ≤ 90 := by omega
        have f2 : decide ((n : Int) ≤ 90) = false := decide_eq_false e2
        go_enter Tryz.func44, Tryz.ntmps44
        go_wp2
        go_ret
        exact ⟨rfl, rfl⟩
    · have hv : ltr c = false := Bool.eq_false_iff.2 (fun h => by unfold ltr at h; simp only [Bool.and_eq_true, Bool.or_eq_true, decide_eq_true_eq, Bool.not_eq_true', decide_eq_false_iff_not] at h; omega)
      rw [hv]
      clear hv
      generalize c.toNat = n at *
      have e0 : ¬ (97 : Int) ≤ (n : Int) := by omega
      have f0 : decide ((97 : Int) ≤ (n : Int)) = false := decide_eq_false e0
      have e1 : ¬ (65 : Int) ≤ (n : Int) := by omega
      have f1 : decide ((65 : Int) ≤ (n : Int)) = false := decide_eq_false e1
      go_enter Tryz.func44, Tryz.ntmps44
      go_wp2
      go_ret
      exact ⟨rfl, rfl⟩


theorem line_when {l : List UInt8} {a : Int} {i : Nat} (h1 : i = 0 ∨ (i : Int) ≤ a) (h2 : i = l.length ∨ a ≤ (i : Int)) : lineL l a = 1 + (l.take i).count 10 := by
  unfold lineL
  by_cases h : a < 0
  · rw [if_pos h]
    obtain rfl : i = 0 := by omega
    simp
  · rw [if_neg h]
    rcases h2 with h2 | h2
    · rcases h1 with h1 | h1
      · have : l = [] := List.length_eq_zero_iff.1 (by omega)
        rw [this]
        simp
      · rw [List.take_of_length_le (i := a.toNat) (by omega), List.take_of_length_le (i := i) (by omega)]
    · rcases h1 with h1 | h1
      · obtain rfl : i = 0 := h1
        rw [show a.toNat = 0 by omega]
      · rw [show a.toNat = i by omega]
theorem count_next {l : List UInt8} {k : Nat} {c : UInt8} (h : l[k]? = some c) : (l.take (k + 1)).count 10 = (l.take k).count 10 + if c.toNat = 10 then 1 else 0 := by
  rw [List.take_add_one, List.count_append, h]
  by_cases h10 : c.toNat = 10
  · obtain rfl : c = 10 := UInt8.toNat_inj.1 h10
    rfl
  · rw [if_neg h10]
    have : c ≠ 10 := fun e => h10 (by rw [e]; rfl)
    simp [this]

set_option maxRecDepth 100000 in
set_option maxHeartbeats 4000000 in
theorem rline_any (s : ByteArray) (hs : s.size ≤ 1000) (a : Int) (w : World) : Calls Tryz.prog 63 #[.string s, .int .i64 a] w fun e w' => e = .returned (.int .i64 (lineL s.data.toList a : Nat)) ∧ w' = w := by
  obtain ⟨l, hl⟩ : ∃ l : List UInt8, l = s.data.toList := ⟨_, rfl⟩
  have hlen : l.length = s.size := by rw [hl, len_size]
  rw [← hl]
  have HL := Lib.hid hl
  have HLN := Lib.hid hlen
  clear hl hlen
  go_enter Tryz.func63, Tryz.ntmps63
  go_wp2_with fail
  go_loopw [5, 6] (fun s5 s6 wr => ∃ (i n : Nat), i ≤ s.size ∧ s5 = .int .i64 n ∧ s6 = .int .i64 i ∧ n = 1 + (l.take i).count 10 ∧ (i = 0 ∨ (i : Int) ≤ a) ∧ wr = w) (fun _ s6 _ => s.size + 1 - (intOf s6).toNat)
  case atStart => exact ⟨0, 1, Nat.zero_le _, rfl, rfl, by simp, .inl rfl, rfl⟩
  case round =>
    obtain ⟨i, n, hi, rfl, rfl, hn, hia, hw⟩ := hrel
    obtain rfl : w = wr := hw.symm
    clear hw
    have hn9 : n ≤ 1001 := by
      have h1 := List.count_le_length (a := (10 : UInt8)) (l := l.take i)
      rw [List.length_take] at h1
      omega
    have HW := Lib.hid (fun h2 => line_when (l := l) hia h2)
    have HN := Lib.hid hn
    clear hn
    by_cases h1 : i < s.size
    · have h1I : (i : Int) < (s.size : Int) := by omega
      have h1d : decide ((i : Int) < (s.size : Int)) = true := decide_eq_true h1I
      by_cases h2 : (i : Int) < a
      · have h2d : decide ((i : Int) < a) = true := decide_eq_true h2
        have hi0 : (0 : Int) ≤ (i : Int) := by omega
        have hc := at_byte s i h1
        rw [← HL.out] at hc
        have hcn := count_next hc
        by_cases h10 : s[i].toNat = 10
        · have q10 : ((s[i].toNat : Int) == 10) = true := by simp; omega
          rw [if_pos h10] at hcn
          have H := Lib.hid (show n + 1 = 1 + (l.take (i + 1)).count 10 by rw [hcn, HN.out]; omega)
          clear hcn hc h10
          go_wp2
          go_roundw
          case rel => exact ⟨i + 1, n + 1, by omega, by go_num, by go_num, H.out, .inr (by omega), by first | rfl | trivial⟩
          case measure => simp [intOf]; omega
        · have q10 : ((s[i].toNat : Int) == 10) = false := by simp; omega
          rw [if_neg h10] at hcn
          have H := Lib.hid (show n = 1 + (l.take (i + 1)).count 10 by rw [hcn, HN.out]; omega)
          clear hcn hc h10
          go_wp2
          go_roundw
          case rel => exact ⟨i + 1, n, by omega, by first | rfl | go_num, by go_num, H.out, .inr (by omega), by first | rfl | trivial⟩
          case measure => simp [intOf]; omega
      · have h2d : decide ((i : Int) < a) = false := decide_eq_false h2
        have hr := HW.out (.inr (by omega))
        rw [← HN.out] at hr
        have HR := Lib.hid hr
        clear hr
        go_wp2
        go_ret
        exact ⟨by rw [HR.out]; rfl, rfl⟩
    · have h1d : decide ((i : Int) < (s.size : Int)) = false := decide_eq_false (by omega)
      have hr := HW.out (.inl (by rw [HLN.out]; omega))
      rw [← HN.out] at hr
      have HR := Lib.hid hr
      clear hr
      go_wp2
      go_ret
      exact ⟨by rw [HR.out]; rfl, rfl⟩

theorem word_get (l : List UInt8) : isWord l = true ↔ ∃ k, k < 16 ∧ wordsL.getD k [] = l := by
  unfold isWord
  rw [List.contains_iff_mem, List.mem_iff_getElem]
  constructor
  · rintro ⟨k, hk, e⟩
    exact ⟨k, hk, by rw [← e]; simp [List.getD, hk]⟩
  · rintro ⟨k, hk, e⟩
    have hk2 : k < wordsL.length := hk
    exact ⟨k, hk2, by rw [← e]; simp [List.getD, hk2]⟩

set_option maxRecDepth 100000 in
set_option maxHeartbeats 4000000 in
theorem rword_any (s : ByteArray) (w : World) : Calls Tryz.prog 45 #[.string s] w fun e w' => e = .returned (.bool (isWord s.data.toList)) ∧ Keeps (fun _ => False) w w' := by
  obtain ⟨l, hl⟩ : ∃ l : List UInt8, l = s.data.toList := ⟨_, rfl⟩
  rw [← hl]
  have HL := Lib.hid hl
  clear hl
  go_enter Tryz.func45, Tryz.ntmps45
  go_wp2_with fail
  generalize hwA : w.alloc _ = wA
  have kA : Keeps (fun _ => False) w wA := by rw [← hwA]; exact (Keeps.refl _ _).alloc _
  have hc : ∀ k, k < 16 → wA.cell? ⟨w.heap.size, k, none⟩ = some (.string (ofL (wordsL.getD k []))) := fun k hk => by
    have h16 : k = 0 ∨ k = 1 ∨ k = 2 ∨ k = 3 ∨ k = 4 ∨ k = 5 ∨ k = 6 ∨ k = 7 ∨ k = 8 ∨ k = 9 ∨ k = 10 ∨ k = 11 ∨ k = 12 ∨ k = 13 ∨ k = 14 ∨ k = 15 := by omega
    rw [← hwA]
    rcases h16 with rfl | rfl | rfl | rfl | rfl | rfl | rfl | rfl | rfl | rfl | rfl | rfl | rfl | rfl | rfl | rfl <;> (simp; rfl)
  obtain ⟨B, hB⟩ : ∃ B, B = w.heap.size := ⟨_, rfl⟩
  rw [← hB] at hc ⊢
  have KA := Lib.hid kA
  have HC := Lib.hid hc
  clear hwA kA hc hB
  go_loopw [4] (fun s4 wr => ∃ (k : Nat), k ≤ 16 ∧ s4 = .int .i64 k ∧ (∀ j, j < k → wordsL.getD j [] ≠ l) ∧ wr = wA) (fun s4 _ => 17 - (intOf s4).toNat)
  case atStart => exact ⟨0, Nat.zero_le _, rfl, fun j h => by omega, rfl⟩
  case round =>
    obtain ⟨k, hk, rfl, hno, hw⟩ := hrel
    obtain rfl : wA = wr := hw.symm
    clear hw
    by_cases h1 : k < 16
    · have h1I : (k : Int) < 16 := by omega
      have h1d : decide ((k : Int) < 16) = true := decide_eq_true h1I
      have hk0 : (0 : Int) ≤ (k : Int) := by omega
      have c0 := HC.out k h1
      obtain ⟨X, hX⟩ : ∃ X : ByteArray, X = ofL (wordsL.getD k []) := ⟨_, rfl⟩
      rw [← hX] at c0
      have hXl : X.data.toList = wordsL.getD k [] := by rw [hX]; exact ofL_list _
      by_cases he : wordsL.getD k [] = l
      · have q : (X.toList == s.toList) = true := by
          rw [toList_data, toList_data, hXl, he, HL.out]
          simp
        have hr : isWord l = true := (word_get l).2 ⟨k, h1, he⟩
        have HR := Lib.hid hr
        clear he hX hXl hno hr
        go_wp2
        go_ret
        exact ⟨by rw [HR.out]; rfl, KA.out⟩
      · have q : (X.toList == s.toList) = false := by
          rw [toList_data, toList_data, hXl, ← HL.out]
          exact beq_eq_false_iff_ne.2 he
        have HN : Hid (∀ j, j < k + 1 → wordsL.getD j [] ≠ l) := fun j hj => by
          rcases Nat.lt_or_ge j k with h3 | h3
          · exact hno j h3
          · obtain rfl : j = k := by omega
            exact he
        clear he hX hXl hno
        go_wp2
        go_roundw
        case rel => exact ⟨k + 1, by omega, by go_num, HN.out, by first | rfl | trivial⟩
        case measure => simp [intOf]; omega
    · obtain rfl : k = 16 := by omega
      have hr : isWord l = false := by
        cases h : isWord l with
        | false => rfl
        | true =>
          obtain ⟨j, h2, h3⟩ := (word_get l).1 h
          exact absurd h3 (hno j h2)
      have HR := Lib.hid hr
      clear hno hr
      go_wp2
      go_ret
      exact ⟨by rw [HR.out]; rfl, KA.out⟩

theorem numA_split (l : List UInt8) : ∀ a, numA a l = a * 10 ^ l.length + numA 0 l := by
  induction l with
  | nil => intro a; show a = a * 10 ^ 0 + 0; simp
  | cons c r ih =>
    intro a
    rw [numA_cons, numA_cons, ih, ih (0 * 10 + (c.toNat - 48)), List.length_cons, Nat.pow_succ, Nat.zero_mul, Nat.zero_add, Nat.add_mul, Nat.mul_assoc, Nat.mul_comm 10]
    omega
theorem numA_lt {l : List UInt8} (h : ∀ c ∈ l, dig c = true) : numA 0 l < 10 ^ l.length := by
  induction l with
  | nil => show 0 < 10 ^ 0; decide
  | cons c r ih =>
    have h1 := ih fun d hd => h d (by simp [hd])
    have h2 := h c (by simp)
    unfold dig at h2
    simp only [Bool.and_eq_true, decide_eq_true_eq] at h2
    rw [numA_cons, numA_split, List.length_cons, Nat.pow_succ, Nat.zero_mul, Nat.zero_add]
    have h3 : (c.toNat - 48) * 10 ^ r.length ≤ 9 * 10 ^ r.length := Nat.mul_le_mul_right _ (by omega)
    omega
theorem digs_less {x : List UInt8} : ∀ {y : List UInt8}, x.length = y.length → (∀ c ∈ x, dig c = true) → (∀ c ∈ y, dig c = true) →
    (Op.bytesLess x y || x == y) = decide (numA 0 x ≤ numA 0 y) := by
  induction x with
  | nil =>
    intro y hl _ _
    have : y = [] := List.length_eq_zero_iff.1 hl.symm
    rw [this]
    rfl
  | cons a x ih =>
    intro y hl hx hy
    cases y with
    | nil => simp at hl
    | cons b y =>
      have hl2 : x.length = y.length := by simpa using hl
      have h1 := ih hl2 (fun d hd => hx d (by simp [hd])) (fun d hd => hy d (by simp [hd]))
      have va := numA_lt (fun d hd => hx d (List.mem_cons_of_mem _ hd))
      have vb := numA_lt (fun d hd => hy d (List.mem_cons_of_mem _ hd))
      have ha := hx a (by simp)
      have hb := hy b (by simp)
      unfold dig at ha hb
      simp only [Bool.and_eq_true, decide_eq_true_eq] at ha hb
      rw [numA_cons, numA_cons, numA_split x, numA_split y, Nat.zero_mul, Nat.zero_add, Nat.zero_add, hl2]
      rw [hl2] at va
      obtain ⟨P, hP⟩ : ∃ P, P = 10 ^ y.length := ⟨_, rfl⟩
      rw [← hP] at va vb ⊢
      show ((decide (a < b) || (a == b && Op.bytesLess x y)) || (a == b && x == y)) = _
      rcases Nat.lt_trichotomy a.toNat b.toNat with h | h | h
      · have e1 : decide (a < b) = true := decide_eq_true (UInt8.lt_iff_toNat_lt.2 h)
        have h3 : (a.toNat - 48 + 1) * P ≤ (b.toNat - 48) * P := Nat.mul_le_mul_right _ (by omega)
        rw [Nat.add_mul, Nat.one_mul] at h3
        rw [e1, decide_eq_true (by omega)]
        rfl
      · obtain rfl : a = b := UInt8.toNat_inj.1 h
        have e1 : decide (a < a) = false := decide_eq_false (fun h => by have := UInt8.lt_iff_toNat_lt.1 h; omega)
        have e2 : (a == a) = true := by simp
        rw [e1, e2, Bool.false_or, Bool.true_and, Bool.true_and, h1]
        rw [Bool.eq_iff_iff]
        simp only [decide_eq_true_eq]
        omega
      · have e1 : decide (a < b) = false := decide_eq_false (fun h2 => by have := UInt8.lt_iff_toNat_lt.1 h2; omega)
        have e2 : (a == b) = false := by
          rw [beq_eq_false_iff_ne]
          intro e
          rw [e] at h
          omega
        have h3 : (b.toNat - 48 + 1) * P ≤ (a.toNat - 48) * P := Nat.mul_le_mul_right _ (by omega)
        rw [Nat.add_mul, Nat.one_mul] at h3
        rw [e1, e2, decide_eq_false (by omega)]
        rfl

set_option maxRecDepth 100000 in
set_option maxHeartbeats 4000000 in
theorem rnumber_any (s : ByteArray) (hd : ∀ c ∈ s.data.toList, dig c = true) (w : World) : Calls Tryz.prog 43 #[.string s] w fun e w' => e = .returned (.bool (decide (numV s.data.toList ≤ 9223372036854775807 ∧ s.size ≤ 19))) ∧ w' = w := by
  have hv : numV s.data.toList = numA 0 s.data.toList := rfl
  have hlt := numA_lt hd
  rw [← hv, len_size] at hlt
  by_cases h1 : s.size < 19
  · have h1d : decide ((s.size : Int) < 19) = true := decide_eq_true (by omega)
    have h3 : 10 ^ s.size ≤ 10 ^ 18 := Nat.pow_le_pow_right (by decide) (by omega)
    have hr : decide (numV s.data.toList ≤ 9223372036854775807 ∧ s.size ≤ 19) = true := decide_eq_true ⟨by omega, by omega⟩
    have HR := Lib.hid hr
    clear hr hlt h3 hv hd
    go_enter Tryz.func43, Tryz.ntmps43
    go_wp2
    go_ret
    exact ⟨by rw [HR.out]; rfl, rfl⟩
  · have h1d : decide ((s.size : Int) < 19) = false := decide_eq_false (by omega)
    by_cases h2 : s.size = 19
    · have h2d : ((s.size : Int) == 19) = true := by simp; omega
      have hc := digs_less (x := s.data.toList) (y := [57, 50, 50, 51, 51, 55, 50, 48, 51, 54, 56, 53, 52, 55, 55, 53, 56, 48, 55]) (by rw [len_size, h2]; rfl) hd (by decide)
      rw [show numA 0 [57, 50, 50, 51, 51, 55, 50, 48, 51, 54, 56, 53, 52, 55, 55, 53, 56, 48, 55] = 9223372036854775807 by decide, ← hv] at hc
      have HC : Hid ((Op.bytesLess s.toList [57, 50, 50, 51, 51, 55, 50, 48, 51, 54, 56, 53, 52, 55, 55, 53, 56, 48, 55] || s.toList == [57, 50, 50, 51, 51, 55, 50, 48, 51, 54, 56, 53, 52, 55, 55, 53, 56, 48, 55]) = decide (numV s.data.toList ≤ 9223372036854775807 ∧ s.size ≤ 19)) := by
        rw [toList_data, hc, Bool.eq_iff_iff]
        simp only [decide_eq_true_eq]
        exact Lib.hid ⟨fun h => ⟨h, by omega⟩, fun h => h.1⟩
      have H2 := Lib.hid h2
      clear hc hlt hv hd h2 h1
      go_enter Tryz.func43, Tryz.ntmps43
      go_wp2
      go_ret
      exact ⟨by rw [← HC.out]; rfl, rfl⟩
    · have h2d : ((s.size : Int) == 19) = false := by simp; omega
      have hr : decide (numV s.data.toList ≤ 9223372036854775807 ∧ s.size ≤ 19) = false := decide_eq_false (fun h => by omega)
      have HR := Lib.hid hr
      clear hr hlt hv hd
      go_enter Tryz.func43, Tryz.ntmps43
      go_wp2
      go_ret
      exact ⟨by rw [HR.out]; rfl, rfl⟩

end Go.Proofs.YtgelggdgbmldiaaGreatDoor

namespace Go.Proofs.YtgelggdgbmldiaaGreatDoor
open Go Go.RowKit Go.Shelf
set_option linter.unusedVariables false
set_option linter.unusedSimpArgs false


/-- One token on. -/
theorem Red.stepAt {P : Nat} {src : ByteArray} {T : List Tok} {R : Nat → Prop} {s : PS} {w : World} (h : Red w P src T R s) (hi : s.i + 1 < T.length) : IntKind.i64.wrap ((s.i : Int) + 1) = (s.i : Int) + 1 ∧ w.cell? ⟨P, 2, none⟩ = some (.int .i64 (s.i : Int)) ∧ w.frozen? ⟨P, 2, none⟩ = false ∧ Red (w.setCell ⟨P, 2, none⟩ (.int .i64 ((s.i : Int) + 1))) P src T R (stepR s) ∧ Fr R w R (w.setCell ⟨P, 2, none⟩ (.int .i64 ((s.i : Int) + 1))) := by
  have hle := h.ok.le
  have h1 := h.setI (s.i + 1) hi
  rw [show ((s.i + 1 : Nat) : Int) = (s.i : Int) + 1 by omega] at h1
  exact ⟨IntWalk.i64_in _ (by omega), h.see.c2, h.see.fz 2, h1.1, h1.2⟩
theorem Red.next {P : Nat} {src : ByteArray} {T : List Tok} {R : Nat → Prop} {s : PS} {w : World} (h : Red w P src T R s) (hk : (tokA T s).k ≠ 0) : s.i + 1 < T.length := by
  have := h.more hk
  omega
theorem kindR_k {T : List Tok} {k : Nat} {s : PS} (h : kindR T k s = true) (hk : k ≠ 0) : (tokA T s).k ≠ 0 := by
  unfold kindR at h
  have := ((Bool.and_eq_true _ _).mp h).2
  have : (tokA T s).k = k := by simpa using this
  omega
theorem isR_k {T : List Tok} {x : List UInt8} {s : PS} (h : isR T x s = true) : (tokA T s).k ≠ 0 := by
  intro h0
  simp [isR, h0] at h

set_option maxRecDepth 100000 in
set_option maxHeartbeats 8000000 in
theorem must_any {P : Nat} {src : ByteArray} {T : List Tok} {R : Nat → Prop} {s : PS} {w : World} (h : Red w P src T R s) (x : ByteArray) : Calls Tryz.prog 37 #[.pointer (some ⟨P, 0, none⟩), .string x] w (PostR P src T R w (.tuple #[]) (mustR T x.data.toList s)) := by
  have H := Lib.hid h
  have IC := Lib.hid (ris_any h x)
  by_cases hb : isR T x.data.toList s = true
  · have hE : mustR T x.data.toList s = stepR s := by unfold mustR; rw [if_pos hb]
    have hi := h.next (isR_k hb)
    rw [hE]
    rw [hb] at IC
    clear hE hb h
    go_enter Tryz.func37, Tryz.ntmps37
    go_wp2_with fail
    refine IC.out.mono ?_
    rintro e w1 ⟨rfl, k1⟩
    obtain ⟨e1, c2, f2, hp, hf⟩ := (H.out.keep k1).stepAt hi
    have HF : Hid (PostR P src T R w (.tuple #[]) (stepR s) (.returned (.tuple #[])) (w1.setCell ⟨P, 2, none⟩ (.int .i64 ((s.i : Int) + 1)))) := Lib.hid ⟨rfl, R, hp, ((Fr.refl R w).keeps k1).trans hf⟩
    generalize (s.i : Int) = i at *
    clear hp hf IC
    go_wp2_with fail
    exact bodyPost_end (v := .tuple #[]) (by simp [results, Tryz.results37, go_sem]) rfl HF.out
  · have hE : mustR T x.data.toList s = failR T 20 s := by unfold mustR; rw [if_neg hb]
    have hb : isR T x.data.toList s = false := by simpa using hb
    rw [hE]
    rw [hb] at IC
    clear hE hb h
    go_enter Tryz.func37, Tryz.ntmps37
    go_wp2_with fail
    refine IC.out.mono ?_
    rintro e w1 ⟨rfl, k1⟩
    have NX := Lib.hid (fails_any (H.out.keep k1) 20)
    clear IC
    go_wp2_with fail
    refine NX.out.mono ?_
    rintro e w2 ⟨rfl, R', hp, hf⟩
    have HF : Hid (PostR P src T R w (.tuple #[]) (failR T 20 s) (.returned (.tuple #[])) w2) := Lib.hid ⟨rfl, R', hp, ((Fr.refl R w).keeps k1).trans hf⟩
    clear hp hf NX
    go_wp2_with fail
    exact bodyPost_end (v := .tuple #[]) (by simp [results, Tryz.results37, go_sem]) rfl HF.out

set_option maxRecDepth 100000 in
set_option maxHeartbeats 8000000 in
theorem rname_any {P : Nat} {src : ByteArray} {T : List Tok} {R : Nat → Prop} {s : PS} {w : World} (h : Red w P src T R s) : Calls Tryz.prog 38 #[.pointer (some ⟨P, 0, none⟩)] w (PostR P src T R w (.string (ofL (wnameX T s))) (wnameR T s)) := by
  have H := Lib.hid h
  have IC := Lib.hid (rkind_any h 3)
  by_cases hb : kindR T 3 s = true
  · have hE : wnameR T s = stepR s := by unfold wnameR; rw [if_pos hb]
    have hX : wnameX T s = (T.getD s.i default).x := by unfold wnameX; rw [if_pos hb]; rfl
    have hi := h.next (kindR_k hb (by decide))
    obtain ⟨tx, htx⟩ : ∃ tx, tx = ofL (T.getD s.i default).x := ⟨_, rfl⟩
    rw [hE, hX, ← htx]
    rw [hb] at IC
    clear hE hb h hX
    go_enter Tryz.func38, Tryz.ntmps38
    go_wp2_with fail
    refine IC.out.mono ?_
    rintro e w1 ⟨rfl, k1⟩
    obtain ⟨e1, c2, f2, hp, hf⟩ := (H.out.keep k1).stepAt hi
    have HF : Hid (∀ w3, Keeps (fun _ => False) (w1.setCell ⟨P, 2, none⟩ (.int .i64 ((s.i : Int) + 1))) w3 → PostR P src T R w (.string tx) (stepR s) (.returned (.string tx)) w3) := Lib.hid fun w3 k3 => ⟨rfl, R, hp.keep k3, (((Fr.refl R w).keeps k1).trans hf).keeps k3⟩
    have HT : Hid (∀ w3, Keeps (fun _ => False) (w1.setCell ⟨P, 2, none⟩ (.int .i64 ((s.i : Int) + 1))) w3 → w3.cell? ⟨P, 2, none⟩ = some (.int .i64 ((s.i : Int) + 1)) ∧ ∃ b off cT, b ≠ P ∧ w3.cell? ⟨P, 1, none⟩ = some (.slice (some ⟨b, off, none⟩) T.length cT) ∧ w3.cell? ⟨b, off + s.i * 3 + 1, none⟩ = some (.string tx)) := Lib.hid fun w3 k3 => by
      have h3 := hp.keep k3
      obtain ⟨b, off, cT, hb, c1, t0, t1, t2⟩ := h3.tokAt s.i (by omega)
      have c2 := h3.see.c2
      rw [show (((stepR s).i : Nat) : Int) = (s.i : Int) + 1 by show ((s.i + 1 : Nat) : Int) = _; omega] at c2
      exact ⟨c2, b, off, cT, hb, c1, by rw [htx]; exact t1⟩
    have hle := H.out.ok.le
    have w0 : IntKind.i64.wrap ((s.i : Int) + 1 - 1) = (s.i : Int) := by rw [show (s.i : Int) + 1 - 1 = (s.i : Int) by omega]; exact IntWalk.i64_in _ (by omega)
    obtain ⟨i, hI⟩ : ∃ i, i = s.i := ⟨_, rfl⟩
    obtain ⟨n, hn⟩ : ∃ n, n = T.length := ⟨_, rfl⟩
    rw [← hI] at e1 c2 HF HT w0 hi
    rw [← hn] at HT hi
    have h0 : (0 : Int) ≤ (i : Int) := by omega
    have h1 : (i : Int) < (n : Int) := by omega
    clear hp hf IC H hI hn hle k1 htx
    go_upto_region 6 with fail
    generalize w1.setCell ⟨P, 2, none⟩ (.int .i64 ((i : Int) + 1)) = w2 at *
    clear c2 f2
    obtain ⟨c2, b, off, cT, hb, c1, t1⟩ := HT.out w2 (Keeps.refl _ _)
    clear e1
    simp only [show (i : Int) + 1 - 1 = (i : Int) by omega] at w0
    go_quiet (fail)
    have kd := drew_keeps w2 nq
    generalize w2.drewN nq = w3 at *
    clear c1 c2 t1
    go_wp2_with fail
    go_ret
    exact HF.out w3 kd
  · have hE : wnameR T s = failR T 20 s := by unfold wnameR; rw [if_neg hb]
    have hX : wnameX T s = [] := by unfold wnameX; rw [if_neg hb]
    have hb : kindR T 3 s = false := by simpa using hb
    rw [hE, hX]
    rw [hb] at IC
    clear hE hb h hX
    go_enter Tryz.func38, Tryz.ntmps38
    go_wp2_with fail
    refine IC.out.mono ?_
    rintro e w1 ⟨rfl, k1⟩
    have NX := Lib.hid (fails_any (H.out.keep k1) 20)
    clear IC
    go_wp2_with fail
    refine NX.out.mono ?_
    rintro e w2 ⟨rfl, R', hp, hf⟩
    have HF : Hid (PostR P src T R w (.string (ofL [])) (failR T 20 s) (.returned (.string (ofL []))) w2) := Lib.hid ⟨rfl, R', hp, ((Fr.refl R w).keeps k1).trans hf⟩
    clear hp hf NX
    go_wp2_with fail
    go_ret
    exact HF.out

set_option maxRecDepth 100000 in
set_option maxHeartbeats 8000000 in
theorem rline_at {P : Nat} {src : ByteArray} {T : List Tok} {R : Nat → Prop} {s : PS} {w : World} (hsz : src.size ≤ 1000) (h : Red w P src T R s) : Calls Tryz.prog 36 #[.pointer (some ⟨P, 0, none⟩)] w fun e w' => e = .returned (.int .i64 (lineS src.data.toList T s)) ∧ Keeps (fun _ => False) w w' := by
  have H := Lib.hid h
  obtain ⟨b, off, cT, hbP, c1, hc⟩ := h.toks
  have sw := h.see
  have hi := h.hi
  have hle := h.ok.le
  obtain ⟨t0, t1, t2⟩ := hc s.i hi
  have hb := cell_ltk t0
  have hP := h.lo
  have c2 := sw.c2
  have c0 := sw.c0
  obtain ⟨i, hI⟩ : ∃ i, i = s.i := ⟨_, rfl⟩
  obtain ⟨n, hn⟩ : ∃ n, n = T.length := ⟨_, rfl⟩
  have LC : Hid (∀ w1, Calls Tryz.prog 63 #[.string src, .int .i64 (((T.getD s.i default).p : Nat) : Int)] w1 fun e w' => e = .returned (.int .i64 (lineS src.data.toList T s)) ∧ w' = w1) := Lib.hid fun w1 => rline_any src hsz _ w1
  generalize lineS src.data.toList T s = ln at LC ⊢
  rw [← hI] at c2 hi t0 t1 t2 LC
  rw [← hn] at c1 hi hle
  generalize (((T.getD i default).p : Nat) : Int) = tp at t2 LC
  have h0 : (0 : Int) ≤ (i : Int) := by omega
  have h1 : (i : Int) < (n : Int) := by omega
  clear hI hn hc H h sw t0 t1
  go_enter Tryz.func36, Tryz.ntmps36
  go_wp2_with fail
  go_quiet ((go_at_call 63; exact Calls.quiet_of_same (LC.out _)))
  have kd := drew_keeps w nq
  generalize w.drewN nq = w1 at *
  clear c1 c2 c0 t2
  go_wp2_with fail
  go_ret
  exact ⟨rfl, kd⟩

set_option maxRecDepth 100000 in
set_option maxHeartbeats 8000000 in
theorem rwd_any {P : Nat} {src : ByteArray} {T : List Tok} {R : Nat → Prop} {s : PS} {w : World} (h : Red w P src T R s) : Calls Tryz.prog 65 #[.pointer (some ⟨P, 0, none⟩)] w fun e w' => e = .returned (.string (ofL (wordR T s))) ∧ Keeps (fun _ => False) w w' := by
  have IC := Lib.hid (rkind_any h 4)
  by_cases hkk : kindR T 4 s = true
  · have H := Lib.hid h
    obtain ⟨b, off, cT, hbP, c1, hc⟩ := h.toks
    have sw := h.see
    have hi := h.hi
    have hle := h.ok.le
    obtain ⟨t0, t1, t2⟩ := hc s.i hi
    have hb := cell_ltk t0
    have hP := h.lo
    have c2 := sw.c2
    have hX : wordR T s = (T.getD s.i default).x := by unfold wordR; rw [if_pos hkk]; rfl
    rw [hX]
    rw [hkk] at IC
    clear hX hkk
    obtain ⟨i, hI⟩ : ∃ i, i = s.i := ⟨_, rfl⟩
    obtain ⟨n, hn⟩ : ∃ n, n = T.length := ⟨_, rfl⟩
    rw [← hI] at c2 hi t0 t1 t2 ⊢
    rw [← hn] at c1 hi hle
    generalize ofL (T.getD i default).x = tx at t1 ⊢
    have h0 : (0 : Int) ≤ (i : Int) := by omega
    have h1 : (i : Int) < (n : Int) := by omega
    clear hI hn hc H h sw t0 t2
    go_enter Tryz.func65, Tryz.ntmps65
    go_wp2_with fail
    refine IC.out.mono ?_
    rintro e w1 ⟨rfl, k1⟩
    have c1 := (k1.cell hP (fun h => h)).trans c1
    have c2 := (k1.cell hP (fun h => h)).trans c2
    have t1 := (k1.cell hb (fun h => h)).trans t1
    have K1 := Lib.hid k1
    clear IC k1 hP hb
    go_upto_region 3 with fail
    go_quiet (fail)
    have kd := K1.out.trans (drew_keeps w1 nq) (fun _ _ h => h)
    generalize w1.drewN nq = w2 at *
    clear c1 c2 t1
    go_wp2_with fail
    go_ret
    exact ⟨rfl, kd⟩
  · have hX : wordR T s = [] := by unfold wordR; rw [if_neg hkk]
    have hb : kindR T 4 s = false := by simpa using hkk
    rw [hX]
    rw [hb] at IC
    clear hX hb h hkk
    go_enter Tryz.func65, Tryz.ntmps65
    go_wp2_with fail
    refine IC.out.mono ?_
    rintro e w1 ⟨rfl, k1⟩
    clear IC
    go_wp2_with fail
    go_ret
    exact ⟨rfl, k1⟩

set_option maxRecDepth 100000 in
set_option maxHeartbeats 8000000 in
theorem rcalls_any {P : Nat} {src : ByteArray} {T : List Tok} {R : Nat → Prop} {s : PS} {w : World} (h : Red w P src T R s) : Calls Tryz.prog 93 #[.pointer (some ⟨P, 0, none⟩)] w fun e w' => e = .returned (.bool (callsR T s)) ∧ Keeps (fun _ => False) w w' := by
  have IC := Lib.hid (rkind_any h 3)
  by_cases hb : kindR T 3 s = true
  · have H := Lib.hid h
    have hi := h.next (kindR_k hb (by decide))
    obtain ⟨b, off, cT, hbP, c1, t0, t1, t2⟩ := h.tokAt (s.i + 1) hi
    have c2 := h.see.c2
    have hbl := cell_ltk t0
    have hP := h.lo
    have hle := h.ok.le
    have hX : callsR T s = (decide (((T.getD (s.i + 1) default).k : Int) = 5) && decide (ofL (T.getD (s.i + 1) default).x = { data := #[40] })) := by
      unfold callsR
      rw [hb, Bool.true_and, list_beq, ofL_list]
      congr 1
      exact decide_eq_decide.2 (by omega)
    rw [hX]
    rw [hb] at IC
    have w1' : IntKind.i64.wrap ((s.i : Int) + 1) = ((s.i + 1 : Nat) : Int) := by rw [show ((s.i + 1 : Nat) : Int) = (s.i : Int) + 1 by omega]; exact IntWalk.i64_in _ (by omega)
    have h0 : (0 : Int) ≤ ((s.i + 1 : Nat) : Int) := by omega
    have h1 : ((s.i + 1 : Nat) : Int) < (T.length : Int) := by omega
    generalize hj : s.i + 1 = j at *
    generalize (s.i : Int) = i at *
    generalize ofL (T.getD j default).x = tx at t1 ⊢
    generalize ((T.getD j default).k : Int) = tk at t0 ⊢
    generalize T.length = n at *
    have hq : (tx.toList == [40]) = decide (tx = { data := #[40] }) := by rw [word_beq, list_beq]
    clear hX hb t2 H h hj hle
    have walk : ∀ r : Bool, ((tk = 5 ∧ r = (tx.toList == [40])) ∨ (tk ≠ 5 ∧ r = false)) → Calls Tryz.prog 93 #[.pointer (some ⟨P, 0, none⟩)] w fun e w' => e = .returned (.bool r) ∧ Keeps (fun _ => False) w w' := by
      intro r hr
      have HRR := Lib.hid hr
      clear hr hq
      go_enter Tryz.func93, Tryz.ntmps93
      go_wp2_with fail
      refine IC.out.mono ?_
      rintro e w1 ⟨rfl, k1⟩
      have c1 := (k1.cell hP (fun h => h)).trans c1
      have c2 := (k1.cell hP (fun h => h)).trans c2
      have t0 := (k1.cell hbl (fun h => h)).trans t0
      have t1 := (k1.cell (cell_ltk t1) (fun h => h)).trans t1
      have K1 := Lib.hid k1
      clear IC k1 hP hbl
      rcases HRR.out with ⟨rfl, rfl⟩ | ⟨h5, rfl⟩
      · go_upto_region 2 with fail
        go_quiet (fail)
        have kd := K1.out.trans (drew_keeps w1 nq) (fun _ _ h => h)
        generalize w1.drewN nq = w2 at *
        clear c1 c2 t0 t1
        go_wp2_with fail
        go_ret
        exact ⟨rfl, kd⟩
      · have d5 := (show (tk == 5) = false by simpa using h5)
        go_upto_region 2 with fail
        go_quiet (fail)
        have kd := K1.out.trans (drew_keeps w1 nq) (fun _ _ h => h)
        generalize w1.drewN nq = w2 at *
        clear c1 c2 t0 t1
        go_wp2_with fail
        go_ret
        exact ⟨rfl, kd⟩
    by_cases h5 : tk = 5
    · rw [decide_eq_true h5, Bool.true_and]
      exact walk _ (.inl ⟨h5, hq.symm⟩)
    · rw [decide_eq_false h5, Bool.false_and]
      exact walk _ (.inr ⟨h5, rfl⟩)
  · have hX : callsR T s = false := by
      have hb : kindR T 3 s = false := by simpa using hb
      unfold callsR; rw [hb, Bool.false_and]
    have hb : kindR T 3 s = false := by simpa using hb
    rw [hX]
    rw [hb] at IC
    clear hX hb h
    go_enter Tryz.func93, Tryz.ntmps93
    go_wp2_with fail
    refine IC.out.mono ?_
    rintro e w1 ⟨rfl, k1⟩
    clear IC
    go_upto_region 2 with fail
    go_quiet (fail)
    have kd := k1.trans (drew_keeps w1 nq) (fun _ _ h => h)
    generalize w1.drewN nq = w2 at *
    clear k1
    go_wp2_with fail
    go_ret
    exact ⟨rfl, kd⟩

end Go.Proofs.YtgelggdgbmldiaaGreatDoor

namespace Go.Proofs.YtgelggdgbmldiaaGreatDoor
open Go Go.RowKit Go.Shelf
set_option linter.unusedVariables false
set_option linter.unusedSimpArgs false

theorem pure_end {α : Type} {a r : α} {s s' : PS} (h : (pure a : PM α) s = some (r, s')) : r = a ∧ s' = s := by
  have := pure_out h
  injection this with h1 h2
  exact ⟨h1, h2⟩
theorem calls_at {P : Nat} {src : ByteArray} {T : List Tok} {R : Nat → Prop} {s : PS} {w : World} (h : Par w P src T R s) {b : Bool} (hb : b = callsS T s) :
    Calls Tryz.prog 79 #[.pointer (some ⟨P, 0, none⟩)] w fun e w' => e = .returned (.bool b) ∧ Keeps (fun _ => False) w w' := by
  rw [hb]
  exact calls_any h

set_option maxRecDepth 100000 in
set_option maxHeartbeats 16000000 in
theorem inside_any {P : Nat} {src : ByteArray} {T : List Tok} {ex : PM Int} (EX : ExC P src T 78 ex) (x y : ByteArray) (s : PS) (r : Int) (s' : PS) (R : Nat → Prop) (w : World) (h : insideM T ex x.data.toList y.data.toList s = some (r, s')) (hp : Par w P src T R s) :
    Calls Tryz.prog 118 #[.pointer (some ⟨P, 0, none⟩), .string x, .string y] w (Post P src T R w (.int .i64 r) s') := by
  have HP0 := Lib.hid hp
  have HF0 := Lib.hid (Fr.refl R w)
  have HLO := Lib.hid hp.lo
  have HM := Lib.hid h
  clear h hp
  go_enter Tryz.func118, Tryz.ntmps118
  obtain ⟨u, s1, hm, h⟩ := bind_out HM.out
  have NC := Lib.hid (open_any HP0.out (x) hm)
  replace HM := Lib.hid h
  clear h hm
  go_wp2_with fail
  refine NC.out.mono ?_
  rintro e w2 ⟨rfl, R3, hp, hf⟩
  have HP1 := Lib.hid hp
  have HF1 := Lib.hid (HF0.out.trans hf)
  clear HP0 HF0 hp hf NC 
  obtain ⟨a, s4, hm, h⟩ := bind_out HM.out
  have NC := Lib.hid (EX _ _ _ _ _ hm HP1.out)
  replace HM := Lib.hid h
  clear h hm
  go_wp2_with fail
  refine NC.out.mono ?_
  rintro e w5 ⟨rfl, R6, hp, hf⟩
  have HP2 := Lib.hid hp
  have HF2 := Lib.hid (HF1.out.trans hf)
  clear HP1 HF1 hp hf NC 
  obtain ⟨u, s7, hm, h⟩ := bind_out HM.out
  have NC := Lib.hid (shut_any HP2.out (y) hm)
  replace HM := Lib.hid h
  clear h hm
  go_wp2_with fail
  refine NC.out.mono ?_
  rintro e w8 ⟨rfl, R9, hp, hf⟩
  have HP3 := Lib.hid hp
  have HF3 := Lib.hid (HF2.out.trans hf)
  clear HP2 HF2 hp hf NC 
  obtain ⟨q1, q2⟩ := pure_end HM.out
  subst q1
  subst q2
  go_wp2_with fail
  go_ret
  exact ⟨rfl, _, HP3.out, HF3.out⟩

set_option maxRecDepth 100000 in
set_option maxHeartbeats 16000000 in
theorem variable_any {P : Nat} {src : ByteArray} {T : List Tok} {ex : PM Int} (EX : ExC P src T 78 ex) (ln : Int) (s : PS) (r : Int) (s' : PS) (R : Nat → Prop) (w : World) (h : variableM T ex ln s = some (r, s')) (hp : Par w P src T R s) :
    Calls Tryz.prog 119 #[.pointer (some ⟨P, 0, none⟩), .agg #[.int .i64 0, .int .i64 ln, .int .i64 0, .string (ofL []), .slice none 0 0]] w (Post P src T R w (.int .i64 r) s') := by
  have HP0 := Lib.hid hp
  have HF0 := Lib.hid (Fr.refl R w)
  have HLO := Lib.hid hp.lo
  have HM := Lib.hid h
  clear h hp
  go_enter Tryz.func119, Tryz.ntmps119
  go_upto_region 1 with fail
  have ka := Keeps.one w (.cells #[.int .i64 0, .int .i64 ln, .int .i64 0, .string (ofL []), .slice none 0 0] 42)
  obtain ⟨X, hX⟩ : ∃ X, X = w.heap.size := ⟨_, rfl⟩
  obtain ⟨w1, hw⟩ : ∃ w1, w1 = w.alloc (.cells #[.int .i64 0, .int .i64 ln, .int .i64 0, .string (ofL []), .slice none 0 0] 42) := ⟨_, rfl⟩
  have HXX1 : Hid (Loc w1 R X [.int .i64 0, .int .i64 ln, .int .i64 0, .string (ofL []), .slice none 0 0]) := Lib.hid (by rw [hw, hX]; exact Loc.new HP0.out.new [.int .i64 0, .int .i64 ln, .int .i64 0, .string (ofL []), .slice none 0 0] 42)
  have HWX : Hid (w.heap.size ≤ X) := Lib.hid (by rw [hX]; exact HF0.out.1.size)
  rw [← hX]
  rw [← hw] at ka ⊢
  have HP1 := Lib.hid (HP0.out.keep ka)
  have HF1 := Lib.hid (HF0.out.keeps ka)
  clear HP0 HF0 ka hw hX
  obtain ⟨x, ex, h⟩ := ask_out HM.out
  obtain ⟨s2, e1, h⟩ := mod_out h
  have NC := Lib.hid (name_at HP1.out e1 ex)
  replace HM := Lib.hid h
  clear h e1 ex
  go_wp2_with fail
  refine NC.out.mono ?_
  rintro e w3 ⟨rfl, R4, hp, hf⟩
  have HP2 := Lib.hid hp
  have HF2 := Lib.hid (HF1.out.trans hf)
  have HXX2 := Lib.hid (HXX1.out.keep hf)
  clear HP1 HF1 HXX1 hp hf NC 
  have zX0 := HXX2.out.cells 0 _ rfl
  have zX3 := HXX2.out.cells 3 _ rfl
  have gX0 := HXX2.out.fz 0
  have gX3 := HXX2.out.fz 3
  go_upto_region 2 with fail
  clear zX0 zX3 gX0 gX3
  obtain ⟨w5, hw⟩ : ∃ w5, w5 = w3.setCell ⟨X, 0, none⟩ (.int .i64 4) := ⟨_, rfl⟩
  have HP3 := Lib.hid (HP2.out.local HXX2.out.out (Nat.lt_of_lt_of_le HLO.out HWX.out) 0 (.int .i64 4))
  have HF3 := Lib.hid (HF2.out.local HWX.out 0 (.int .i64 4))
  have HXX3 : Hid (Loc w5 R4 X [.int .i64 4, .int .i64 ln, .int .i64 0, .string (ofL []), .slice none 0 0]) := Lib.hid (by rw [hw]; exact HXX2.out.set 0 (.int .i64 4) (by simp))
  rw [← hw] at HP3 HF3 ⊢
  clear HP2 HF2 HXX2 hw
  obtain ⟨w6, hw⟩ : ∃ w6, w6 = w5.setCell ⟨X, 3, none⟩ (.string (ofL x)) := ⟨_, rfl⟩
  have HP4 := Lib.hid (HP3.out.local HXX3.out.out (Nat.lt_of_lt_of_le HLO.out HWX.out) 3 (.string (ofL x)))
  have HF4 := Lib.hid (HF3.out.local HWX.out 3 (.string (ofL x)))
  have HXX4 : Hid (Loc w6 R4 X [.int .i64 4, .int .i64 ln, .int .i64 0, .string (ofL x), .slice none 0 0]) := Lib.hid (by rw [hw]; exact HXX3.out.set 3 (.string (ofL x)) (by simp))
  rw [← hw] at HP4 HF4 ⊢
  clear HP3 HF3 HXX3 hw
  obtain ⟨b, hb, h⟩ := ask_out HM.out
  have IC := Lib.hid (is_at1 HP4.out ({ data := #[91] }) hb)
  replace HM := Lib.hid h
  clear h hb
  cases b with
  | true =>
    have h := HM.out
    rw [if_pos rfl] at h
    replace HM := Lib.hid h
    clear h
    go_wp2_with fail
    refine IC.out.mono ?_
    rintro e w7 ⟨rfl, k1⟩
    have HP5 := Lib.hid (HP4.out.keep k1)
    have HF5 := Lib.hid (HF4.out.keeps k1)
    have HXX5 := Lib.hid (HXX4.out.keeps k1)
    clear HP4 HF4 HXX4 IC k1 
    have zX0 := HXX5.out.cells 0 _ rfl
    have gX0 := HXX5.out.fz 0
    go_upto_region 5 with fail
    clear zX0 gX0
    obtain ⟨w8, hw⟩ : ∃ w8, w8 = w7.setCell ⟨X, 0, none⟩ (.int .i64 5) := ⟨_, rfl⟩
    have HP6 := Lib.hid (HP5.out.local HXX5.out.out (Nat.lt_of_lt_of_le HLO.out HWX.out) 0 (.int .i64 5))
    have HF6 := Lib.hid (HF5.out.local HWX.out 0 (.int .i64 5))
    have HXX6 : Hid (Loc w8 R4 X [.int .i64 5, .int .i64 ln, .int .i64 0, .string (ofL x), .slice none 0 0]) := Lib.hid (by rw [hw]; exact HXX5.out.set 0 (.int .i64 5) (by simp))
    rw [← hw] at HP6 HF6 ⊢
    clear HP5 HF5 HXX5 hw
    have zX0 := HXX6.out.cells 0 _ rfl
    have zX1 := HXX6.out.cells 1 _ rfl
    have zX2 := HXX6.out.cells 2 _ rfl
    have zX3 := HXX6.out.cells 3 _ rfl
    have zX4 := HXX6.out.cells 4 _ rfl
    obtain ⟨y, s9, hm, h⟩ := bind_out HM.out
    have NA := Lib.hid (inside_any EX ({ data := #[91] }) ({ data := #[93] }) _ _ _ _ _ hm (HP6.out.keep ((Keeps.refl (fun _ => False) w8).drew)))
    replace HM := Lib.hid h
    clear h hm
    go_wp2_with fail
    refine wp_region_held_drew (S := fun w' => w'.cell? ⟨X, 0, none⟩ = some (.int .i64 5) ∧ w'.cell? ⟨X, 1, none⟩ = some (.int .i64 ln) ∧ w'.cell? ⟨X, 2, none⟩ = some (.int .i64 0) ∧ w'.cell? ⟨X, 3, none⟩ = some (.string (ofL x)) ∧ w'.cell? ⟨X, 4, none⟩ = some (.slice none 0 0)) (by kernel_rfl) (⟨zX0, zX1, zX2, zX3, zX4⟩) (fun hHeld => ?_)
    clear zX0 zX1 zX2 zX3 zX4
    have HP7 := Lib.hid (HP6.out.keep ((Keeps.refl (fun _ => False) w8).drew))
    have HF7 := Lib.hid (HF6.out.keeps ((Keeps.refl (fun _ => False) w8).drew))
    have HXX7 := Lib.hid (HXX6.out.keeps ((Keeps.refl (fun _ => False) w8).drew))
    clear HP6 HF6 HXX6 
    refine wpAnyH_take (i := 0) (v := ?_) rfl (by kernel_rfl) (by kernel_rfl) (by kernel_rfl) (fun _ _ _ h => h) (Or.inl ⟨by rfl, ?_⟩) (by assumption) ?_
    rotate_left
    · (intro w' hSw; (try dsimp only at hSw); obtain ⟨y0, y1, y2, y3, y4⟩ := hSw; go_simp; (try (with_reducible rfl)))
    simp only [Act.put, List.getElem_toArray, List.getElem_cons_succ, List.getElem_cons_zero, List.setIfInBounds_toArray, List.set_cons_succ, List.set_cons_zero]
    refine wpAnyH_take (i := 1) (v := ?_) rfl (by kernel_rfl) (by kernel_rfl) (by kernel_rfl) (fun _ _ _ h => h) (Or.inl ⟨by rfl, ?_⟩) (by assumption) ?_
    rotate_left
    · (intro w' hSw; (try dsimp only at hSw); obtain ⟨y0, y1, y2, y3, y4⟩ := hSw; go_simp; (try (with_reducible rfl)))
    simp only [Act.put, List.getElem_toArray, List.getElem_cons_succ, List.getElem_cons_zero, List.setIfInBounds_toArray, List.set_cons_succ, List.set_cons_zero]
    refine wpAnyH_take (i := 2) (v := ?_) rfl (by kernel_rfl) (by kernel_rfl) (by kernel_rfl) (fun _ _ _ h => h) (Or.inl ⟨by rfl, ?_⟩) (by assumption) ?_
    rotate_left
    · (intro w' hSw; (try dsimp only at hSw); obtain ⟨y0, y1, y2, y3, y4⟩ := hSw; go_simp; (try (with_reducible rfl)))
    simp only [Act.put, List.getElem_toArray, List.getElem_cons_succ, List.getElem_cons_zero, List.setIfInBounds_toArray, List.set_cons_succ, List.set_cons_zero]
    refine wpAnyH_ready (rs := [3]) (by kernel_rfl) (by simp) ?_
    refine AllReadyH.cons rfl (fun K hK => ?_) AllReadyH.nil
    go_simp
    (go_at_call 118; refine NA.out.mono ?_; rintro e w10 ⟨rfl, R11, hp, hf⟩; (try go_simp))
    have HP8 := Lib.hid hp
    have HF8 := Lib.hid (HF7.out.trans hf)
    have HXX8 := Lib.hid (HXX7.out.keep hf)
    clear HP7 HF7 HXX7 hp hf NA
    refine hK.out _ _ ⟨HXX8.out.cells 0 _ rfl, HXX8.out.cells 1 _ rfl, HXX8.out.cells 2 _ rfl, HXX8.out.cells 3 _ rfl, HXX8.out.cells 4 _ rfl⟩ (fun hHeld => ?_)
    clear hK K
    refine wpAnyH_ready (rs := [4]) (by kernel_rfl) (by simp) ?_
    refine AllReadyH.cons rfl (fun K hK => ?_) AllReadyH.nil
    go_simp
    have ZA := Lib.hid (HXX8.out.keeps (Keeps.one w10 (.cells #[.int .i64 y] 3)))
    refine hK.out _ _ ⟨ZA.out.cells 0 _ rfl, ZA.out.cells 1 _ rfl, ZA.out.cells 2 _ rfl, ZA.out.cells 3 _ rfl, ZA.out.cells 4 _ rfl⟩ (fun hHeld => ?_)
    clear hK K ZA
    refine wpAnyH_ready (rs := [5]) (by kernel_rfl) (by simp) ?_
    refine AllReadyH.cons rfl (fun K hK => ?_) AllReadyH.nil
    have NB := Lib.hid ((nodeC P src T).one HP8.out (5) (ln) (0) (x) y HM.out)
    go_simp
    (go_at_call 62; refine NB.out.mono ?_; rintro e w12 ⟨rfl, R13, hp, hf⟩; (try go_simp))
    have HP9 := Lib.hid hp
    have HF9 := Lib.hid (HF8.out.trans hf)
    have HXX9 := Lib.hid (HXX8.out.keep hf)
    clear HP8 HF8 HXX8 hp hf NB
    refine hK.out _ _ ⟨HXX9.out.cells 0 _ rfl, HXX9.out.cells 1 _ rfl, HXX9.out.cells 2 _ rfl, HXX9.out.cells 3 _ rfl, HXX9.out.cells 4 _ rfl⟩ (fun hHeld => ?_)
    clear hK K
    refine wpAnyH_take (i := 6) (v := ?_) rfl (by kernel_rfl) (by kernel_rfl) (by kernel_rfl) (fun _ _ _ h => h) (Or.inl ⟨by rfl, ?_⟩) (by assumption) ?_
    rotate_left
    · (intro w' hSw; (try dsimp only at hSw); obtain ⟨y0, y1, y2, y3, y4⟩ := hSw; go_simp; (try (with_reducible rfl)))
    simp only [Act.put, List.getElem_toArray, List.getElem_cons_succ, List.getElem_cons_zero, List.setIfInBounds_toArray, List.set_cons_succ, List.set_cons_zero]
    refine wpAnyH_done (by kernel_rfl) ?_ _
    clear hHeld
    go_wp2_with fail
    go_ret
    exact ⟨rfl, _, HP9.out, HF9.out⟩
  | false =>
    have h := HM.out
    rw [if_neg (by decide)] at h
    replace HM := Lib.hid h
    clear h
    go_wp2_with fail
    refine IC.out.mono ?_
    rintro e w14 ⟨rfl, k1⟩
    have HP5 := Lib.hid (HP4.out.keep k1)
    have HF5 := Lib.hid (HF4.out.keeps k1)
    have HXX5 := Lib.hid (HXX4.out.keeps k1)
    clear HP4 HF4 HXX4 IC k1 
    have NC := Lib.hid ((nodeC P src T).nil HP5.out (4) (ln) (0) (x) HM.out)
    have zX0 := HXX5.out.cells 0 _ rfl
    have zX1 := HXX5.out.cells 1 _ rfl
    have zX2 := HXX5.out.cells 2 _ rfl
    have zX3 := HXX5.out.cells 3 _ rfl
    have zX4 := HXX5.out.cells 4 _ rfl
    go_wp2_with fail
    refine NC.out.mono ?_
    rintro e w15 ⟨rfl, R16, hp, hf⟩
    have HP6 := Lib.hid hp
    have HF6 := Lib.hid (HF5.out.trans hf)
    have HXX6 := Lib.hid (HXX5.out.keep hf)
    clear HP5 HF5 HXX5 hp hf NC zX0 zX1 zX2 zX3 zX4
    go_wp2_with fail
    go_ret
    exact ⟨rfl, _, HP6.out, HF6.out⟩

end Go.Proofs.YtgelggdgbmldiaaGreatDoor
