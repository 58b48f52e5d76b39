/-
  Layer 2: open, shut, calls, Type; what serves the parser's walks. Written by an AI agent.
-/
import Derived.Test.YtgelggdgbmldiaaDoorPaH
namespace Go.Proofs.YtgelggdgbmldiaaDoor
open Go Go.RowKit Go.Shelf
set_option linter.unusedVariables false
set_option linter.unusedSimpArgs false

theorem ask_out {α β : Type} {f : PS → α} {g : α → PM β} {s : PS} {r : β × PS} (h : (ask f >>= g) s = some r) : ∃ a, a = f s ∧ g a s = some r := ⟨f s, rfl, h⟩
theorem mod_out {β : Type} {f : PS → PS} {g : Unit → PM β} {s : PS} {r : β × PS} (h : (mod f >>= g) s = some r) : ∃ s1, s1 = f s ∧ g () s1 = some r := ⟨f s, rfl, h⟩
theorem mod_end {f : PS → PS} {s : PS} {r : Unit × PS} (h : mod f s = some r) : r.2 = f s := by have := Option.some.inj h; rw [← this]
theorem node_out {n : Nd} {l : List Int} {s s' : PS} {r : Int} (h : nodeM n l s = some (r, s')) : s.nd.length < 100000 ∧ r = (s.nd.length : Int) ∧ s' = { s with nd := s.nd ++ [{ n with l := l }] } := by
  unfold nodeM at h
  split at h
  · rename_i hl
    injection h with h
    injection h with h1 h2
    exact ⟨hl, h1.symm, h2.symm⟩
  · cases h
theorem deep_out {d : Int} {s s' : PS} {u : Unit} (h : deepS d s = some (u, s')) : (-1000000 < s.dp ∧ s.dp < 1000000) ∧ s' = { s with dp := s.dp + d } := by
  unfold deepS at h
  split at h
  · rename_i hl
    injection h with h
    injection h with h1 h2
    exact ⟨hl, h2.symm⟩
  · cases h
theorem nextS_dp (T : List Tok) (s : PS) : (nextS T s).dp = s.dp := by unfold nextS; split <;> rfl
theorem failS_dp (T : List Tok) (e : Nat) (s : PS) : (failS T e s).dp = s.dp := by unfold failS; split <;> rfl
theorem wantS_dp (T : List Tok) (x : List UInt8) (s : PS) : (wantS T x s).dp = s.dp := by
  unfold wantS
  split
  · exact nextS_dp T s
  · exact failS_dp T 20 s

/-- The contract of a function of the parser's that tells a number. -/
def ExC (P : Nat) (src : ByteArray) (T : List Tok) (f : Nat) (m : PM Int) : Prop :=
  ∀ (s : PS) (a : Int) (s1 : PS) (R : Nat → Prop) (w : World), m s = some (a, s1) → Par w P src T R s → Calls Tryd.prog f #[.pointer (some ⟨P, 0, none⟩)] w (Post P src T R w (.int .i64 a) s1)

theorem is_at1 {P : Nat} {src : ByteArray} {T : List Tok} {R : Nat → Prop} {s : PS} {w : World} (h : Par w P src T R s) (x : ByteArray) {b : Bool} (hb : b = isS T [x.data.toList] s) :
    Calls Tryd.prog 51 #[.pointer (some ⟨P, 0, none⟩), .slice (some ⟨w.heap.size, 0, none⟩) 1 1] (w.alloc (.cells #[.string x] 9)) fun e w' => e = .returned (.bool b) ∧ Keeps (fun _ => False) w w' := by
  rw [hb]
  exact is_one h x _
theorem is_at2 {P : Nat} {src : ByteArray} {T : List Tok} {R : Nat → Prop} {s : PS} {w : World} (h : Par w P src T R s) (x y : ByteArray) {b : Bool} (hb : b = isS T [x.data.toList, y.data.toList] s) :
    Calls Tryd.prog 51 #[.pointer (some ⟨P, 0, none⟩), .slice (some ⟨w.heap.size, 0, none⟩) 2 2] (w.alloc (.cells #[.string x, .string y] 9)) fun e w' => e = .returned (.bool b) ∧ Keeps (fun _ => False) w w' := by
  rw [hb]
  exact (is_any (h.keep (Keeps.one w _)) [x, y] w.heap.size 0 2 rfl (by omega) (fun j hj => by
    rw [Nat.zero_add, World.cell?_alloc_mark w #[.string x, .string y] 9 (0, 0) j]
    match j, hj with
    | 0, _ => rfl
    | 1, _ => rfl)).mono fun e w' ⟨h1, k⟩ => ⟨h1, (Keeps.one w _).trans k (fun _ _ h => h)⟩
theorem is_at4 {P : Nat} {src : ByteArray} {T : List Tok} {R : Nat → Prop} {s : PS} {w : World} (h : Par w P src T R s) (x y z u : ByteArray) {b : Bool} (hb : b = isS T [x.data.toList, y.data.toList, z.data.toList, u.data.toList] s) :
    Calls Tryd.prog 51 #[.pointer (some ⟨P, 0, none⟩), .slice (some ⟨w.heap.size, 0, none⟩) 4 4] (w.alloc (.cells #[.string x, .string y, .string z, .string u] 9)) fun e w' => e = .returned (.bool b) ∧ Keeps (fun _ => False) w w' := by
  rw [hb]
  exact (is_any (h.keep (Keeps.one w _)) [x, y, z, u] w.heap.size 0 4 rfl (by omega) (fun j hj => by
    rw [Nat.zero_add, World.cell?_alloc_mark w #[.string x, .string y, .string z, .string u] 9 (0, 0) j]
    match j, hj with
    | 0, _ => rfl
    | 1, _ => rfl
    | 2, _ => rfl
    | 3, _ => rfl)).mono fun e w' ⟨h1, k⟩ => ⟨h1, (Keeps.one w _).trans k (fun _ _ h => h)⟩
theorem line_at {P : Nat} {src : ByteArray} {T : List Tok} {R : Nat → Prop} {s : PS} {w : World} (hsz : src.size ≤ 1000) (h : Par w P src T R s) {ln : Int} (hl : ln = lineS src.data.toList T s) :
    Calls Tryd.prog 48 #[.pointer (some ⟨P, 0, none⟩)] w fun e w' => e = .returned (.int .i64 ln) ∧ Keeps (fun _ => False) w w' := by
  rw [hl]
  exact pline_any hsz h
theorem now_at {P : Nat} {src : ByteArray} {T : List Tok} {R : Nat → Prop} {s : PS} {w : World} (h : Par w P src T R s) {t : Tok} (ht : t = tokA T s) :
    Calls Tryd.prog 25 #[.pointer (some ⟨P, 0, none⟩)] w fun e w' => e = .returned (.agg #[.int .i64 (t.k : Int), .string (ofL t.x), .int .i64 (t.p : Int)]) ∧ Keeps (fun _ => False) w w' := by
  rw [ht]
  exact now_any h
theorem next_at {P : Nat} {src : ByteArray} {T : List Tok} {R : Nat → Prop} {s s1 : PS} {w : World} (h : Par w P src T R s) (e : s1 = nextS T s) : Calls Tryd.prog 53 #[.pointer (some ⟨P, 0, none⟩)] w (Post P src T R w (.tuple #[]) s1) := by
  rw [e]
  exact next_any h
theorem want_at {P : Nat} {src : ByteArray} {T : List Tok} {R : Nat → Prop} {s s1 : PS} {w : World} (h : Par w P src T R s) (x : ByteArray) (e : s1 = wantS T x.data.toList s) : Calls Tryd.prog 49 #[.pointer (some ⟨P, 0, none⟩), .string x] w (Post P src T R w (.tuple #[]) s1) := by
  rw [e]
  exact want_any h x
theorem fail_at {P : Nat} {src : ByteArray} {T : List Tok} {R : Nat → Prop} {s s1 : PS} {w : World} (h : Par w P src T R s) (k : Nat) (e : s1 = failS T k s) : Calls Tryd.prog 79 #[.pointer (some ⟨P, 0, none⟩), .int .i64 (k : Int)] w (Post P src T R w (.tuple #[]) s1) := by
  rw [e]
  exact fail_any h k
theorem name_at {P : Nat} {src : ByteArray} {T : List Tok} {R : Nat → Prop} {s s1 : PS} {w : World} {x : List UInt8} (h : Par w P src T R s) (e : s1 = nameS T s) (ex : x = nameX T s) : Calls Tryd.prog 50 #[.pointer (some ⟨P, 0, none⟩)] w (Post P src T R w (.string (ofL x)) s1) := by
  rw [e, ex]
  exact pname_any h

theorem Loc.set {w : World} {R : Nat → Prop} {X : Nat} {vs : List Value} (h : Loc w R X vs) (j : Nat) (u : Value) (hj : j < vs.length) : Loc (w.setCell ⟨X, j, none⟩ u) R X (vs.set j u) := by
  refine ⟨by simpa using h.lt, h.out, fun k v hv => ?_, fun k => (World.frozen?_setCell w _ _ _).trans (h.fz k)⟩
  by_cases e : j = k
  · subst e
    rw [List.getElem?_set_self hj] at hv
    cases hv
    exact cell_same w X j u _ (h.cells j vs[j] (List.getElem?_eq_getElem hj))
  · rw [List.getElem?_set_ne e] at hv
    exact (cell_other w j k u (.inl e)).trans (h.cells k v hv)
set_option maxRecDepth 100000 in
set_option maxHeartbeats 8000000 in
theorem shut_any {P : Nat} {src : ByteArray} {T : List Tok} {R : Nat → Prop} {s s1 : PS} {w : World} (h : Par w P src T R s) (x : ByteArray) {u : Unit} (hm : shutM T x.data.toList s = some (u, s1)) : Calls Tryd.prog 84 #[.pointer (some ⟨P, 0, none⟩), .string x] w (Post P src T R w (.tuple #[]) s1) := by
  have H := Lib.hid h
  obtain ⟨s2, e2, hm⟩ := mod_out hm
  obtain ⟨hd, e1⟩ := deep_out hm
  have WC := Lib.hid (want_at h x e2)
  have E1 := Lib.hid e1
  clear hm e1 e2 h
  go_enter Tryd.func84, Tryd.ntmps84
  go_wp2_with fail
  refine WC.out.mono ?_
  rintro e w1 ⟨rfl, R1, hp, hf⟩
  have hs := hp.see
  have c6 := hs.c6
  have f6 := hs.fz 6
  have hw := IntWalk.i64_in (s2.dp - 1) (by omega)
  have hset := hp.setDp (s2.dp - 1)
  have HF : Hid (Post P src T R w (.tuple #[]) s1 (.returned (.tuple #[])) (w1.setCell ⟨P, 6, none⟩ (.int .i64 (s2.dp - 1)))) := Lib.hid ⟨rfl, R1, by rw [E1.out]; exact hset.1, hf.trans hset.2⟩
  generalize s2.dp = dp at c6 hw HF hd
  clear hs hset hp hf WC E1 hd H
  go_wp2_with fail
  exact bodyPost_end (v := .tuple #[]) (by simp [results, Tryd.results84, go_sem]) rfl HF.out
set_option maxRecDepth 100000 in
set_option maxHeartbeats 8000000 in
theorem open_any {P : Nat} {src : ByteArray} {T : List Tok} {R : Nat → Prop} {s s1 : PS} {w : World} (h : Par w P src T R s) (x : ByteArray) {u : Unit} (hm : openM T x.data.toList s = some (u, s1)) : Calls Tryd.prog 82 #[.pointer (some ⟨P, 0, none⟩), .string x] w (Post P src T R w (.tuple #[]) s1) := by
  have H := Lib.hid h
  obtain ⟨s3, e3, hm⟩ := mod_out hm
  obtain ⟨hd, e1⟩ := deep_out hm
  have hdp : s3.dp = s.dp := by
    rw [e3]
    unfold openS
    rw [wantS_dp]
    split
    · exact failS_dp T 21 s
    · rfl
  have E1 := Lib.hid e1
  obtain ⟨b, hb⟩ : ∃ b, b = isS T [x.data.toList] s := ⟨_, rfl⟩
  have IC := Lib.hid (is_at1 h x hb)
  have c6 := h.see.c6
  unfold openS at e3
  rw [← hb] at e3
  clear hm e1 hb h
  cases b with
  | false =>
    have E3 : Hid (s3 = wantS T x.data.toList s) := Lib.hid (by rw [e3]; rfl)
    clear e3 hdp c6
    go_enter Tryd.func82, Tryd.ntmps82
    go_wp2_with fail
    refine IC.out.mono ?_
    rintro e w1 ⟨rfl, k1⟩
    have WC := Lib.hid (want_at (H.out.keep k1) x E3.out)
    clear IC E3
    go_wp2_with fail
    refine WC.out.mono ?_
    rintro e w2 ⟨rfl, R1, hp, hf⟩
    have HP2 := Lib.hid hp
    have HF2 := Lib.hid (((Fr.refl R w).keeps k1).trans hf)
    clear WC hp hf k1
    have hs := HP2.out.see
    have c6 := hs.c6
    have f6 := hs.fz 6
    have hw := IntWalk.i64_in (s3.dp + 1) (by omega)
    have hset := HP2.out.setDp (s3.dp + 1)
    have HF : Hid (Post P src T R w (.tuple #[]) s1 (.returned (.tuple #[])) (w2.setCell ⟨P, 6, none⟩ (.int .i64 (s3.dp + 1)))) := Lib.hid ⟨rfl, _, by rw [E1.out]; exact hset.1, HF2.out.trans hset.2⟩
    generalize s3.dp = dp at c6 hw HF hd
    clear hs hset HP2 HF2 E1 hd H
    go_wp2_with fail
    exact bodyPost_end (v := .tuple #[]) (by simp [results, Tryd.results82, go_sem]) rfl HF.out
  | true =>
    by_cases h16 : 16 ≤ s.dp
    · have d16 : decide (16 ≤ s.dp) = true := decide_eq_true h16
      obtain ⟨s4, e4⟩ : ∃ s4, s4 = failS T 21 s := ⟨_, rfl⟩
      have E3 : Hid (s3 = wantS T x.data.toList s4) := Lib.hid (by rw [e3, d16, e4]; rfl)
      have E4 := Lib.hid e4
      clear e3 e4 hdp
      go_enter Tryd.func82, Tryd.ntmps82
      go_wp2_with fail
      refine IC.out.mono ?_
      rintro e w1 ⟨rfl, k1⟩
      have c6 := (H.out.keep k1).see.c6
      have FC := Lib.hid (fail_at (H.out.keep k1) 21 E4.out)
      clear IC
      go_wp2_with fail
      refine FC.out.mono ?_
      rintro e w3 ⟨rfl, R3, hp3, hf3⟩
      have WC := Lib.hid (want_at hp3 x E3.out)
      clear FC
      go_wp2_with fail
      refine WC.out.mono ?_
      rintro e w2 ⟨rfl, R1, hp, hf⟩
      have HP2 := Lib.hid hp
      have HF2 := Lib.hid ((((Fr.refl R w).keeps k1).trans hf3).trans hf)
      clear WC hp hf k1 hf3 hp3 c6 h16 d16 E3 E4
      have hs := HP2.out.see
      have c6 := hs.c6
      have f6 := hs.fz 6
      have hw := IntWalk.i64_in (s3.dp + 1) (by omega)
      have hset := HP2.out.setDp (s3.dp + 1)
      have HF : Hid (Post P src T R w (.tuple #[]) s1 (.returned (.tuple #[])) (w2.setCell ⟨P, 6, none⟩ (.int .i64 (s3.dp + 1)))) := Lib.hid ⟨rfl, _, by rw [E1.out]; exact hset.1, HF2.out.trans hset.2⟩
      generalize s3.dp = dp at c6 hw HF hd
      clear hs hset HP2 HF2 E1 hd H
      go_wp2_with fail
      exact bodyPost_end (v := .tuple #[]) (by simp [results, Tryd.results82, go_sem]) rfl HF.out
    · have d16 : decide (16 ≤ s.dp) = false := decide_eq_false h16
      have E3 : Hid (s3 = wantS T x.data.toList s) := Lib.hid (by rw [e3, d16]; rfl)
      clear e3 hdp c6
      go_enter Tryd.func82, Tryd.ntmps82
      go_wp2_with fail
      refine IC.out.mono ?_
      rintro e w1 ⟨rfl, k1⟩
      have WC := Lib.hid (want_at (H.out.keep k1) x E3.out)
      have c6 := (H.out.keep k1).see.c6
      clear IC E3
      go_wp2_with fail
      refine WC.out.mono ?_
      rintro e w2 ⟨rfl, R1, hp, hf⟩
      have HP2 := Lib.hid hp
      have HF2 := Lib.hid (((Fr.refl R w).keeps k1).trans hf)
      clear WC hp hf k1 c6 h16 d16
      have hs := HP2.out.see
      have c6 := hs.c6
      have f6 := hs.fz 6
      have hw := IntWalk.i64_in (s3.dp + 1) (by omega)
      have hset := HP2.out.setDp (s3.dp + 1)
      have HF : Hid (Post P src T R w (.tuple #[]) s1 (.returned (.tuple #[])) (w2.setCell ⟨P, 6, none⟩ (.int .i64 (s3.dp + 1)))) := Lib.hid ⟨rfl, _, by rw [E1.out]; exact hset.1, HF2.out.trans hset.2⟩
      generalize s3.dp = dp at c6 hw HF hd
      clear hs hset HP2 HF2 E1 hd H
      go_wp2_with fail
      exact bodyPost_end (v := .tuple #[]) (by simp [results, Tryd.results82, go_sem]) rfl HF.out
end Go.Proofs.YtgelggdgbmldiaaDoor
