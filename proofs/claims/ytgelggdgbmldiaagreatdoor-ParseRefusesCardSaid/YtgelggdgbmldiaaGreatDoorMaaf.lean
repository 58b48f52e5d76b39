/-
  Layer 2: open, shut, calls, Type; what serves the parser's walks. Written by an AI agent.
  Layer 2: calls, and types by their words. Written by an AI agent.
  Layer 2: rows of numbers that go below a node; a node by its contract. Written by an AI agent.
  Layer 2: what the document's reader does, as data, step by step. Written by an AI agent.
  Layer 2: the document's reader in memory. Written by an AI agent.
-/
import Derived.Test.YtgelggdgbmldiaaGreatDoorMaae
import Derived.Test.YtgelggdgbmldiaaGreatDoorMaaa
namespace Go.Proofs.YtgelggdgbmldiaaGreatDoor
open Go Go.RowKit Go.Shelf
set_option linter.unusedVariables false
set_option linter.unusedSimpArgs false

theorem ask_out {α β : Type} {f : PS → α} {g : α → PM β} {s : PS} {r : β × PS} (h : (ask f >>= g) s = some r) : ∃ a, a = f s ∧ g a s = some r := ⟨f s, rfl, h⟩
theorem mod_out {β : Type} {f : PS → PS} {g : Unit → PM β} {s : PS} {r : β × PS} (h : (mod f >>= g) s = some r) : ∃ s1, s1 = f s ∧ g () s1 = some r := ⟨f s, rfl, h⟩
theorem mod_end {f : PS → PS} {s : PS} {r : Unit × PS} (h : mod f s = some r) : r.2 = f s := by have := Option.some.inj h; rw [← this]
theorem node_out {n : Nd} {l : List Int} {s s' : PS} {r : Int} (h : nodeM n l s = some (r, s')) : s.nd.length < 100000 ∧ r = (s.nd.length : Int) ∧ s' = { s with nd := s.nd ++ [{ n with l := l }] } := by
  unfold nodeM at h
  split at h
  · rename_i hl
    injection h with h
    injection h with h1 h2
    exact ⟨hl, h1.symm, h2.symm⟩
  · cases h
theorem deep_out {d : Int} {s s' : PS} {u : Unit} (h : deepS d s = some (u, s')) : (-1000000 < s.dp ∧ s.dp < 1000000) ∧ s' = { s with dp := s.dp + d } := by
  unfold deepS at h
  split at h
  · rename_i hl
    injection h with h
    injection h with h1 h2
    exact ⟨hl, h2.symm⟩
  · cases h
theorem nextS_dp (T : List Tok) (s : PS) : (nextS T s).dp = s.dp := by unfold nextS; split <;> rfl
theorem failS_dp (T : List Tok) (e : Nat) (s : PS) : (failS T e s).dp = s.dp := by unfold failS; split <;> rfl
theorem wantS_dp (T : List Tok) (x : List UInt8) (s : PS) : (wantS T x s).dp = s.dp := by
  unfold wantS
  split
  · exact nextS_dp T s
  · exact failS_dp T 20 s

/-- The contract of a function of the parser's that tells a number. -/
def ExC (P : Nat) (src : ByteArray) (T : List Tok) (f : Nat) (m : PM Int) : Prop :=
  ∀ (s : PS) (a : Int) (s1 : PS) (R : Nat → Prop) (w : World), m s = some (a, s1) → Par w P src T R s → Calls Tryz.prog f #[.pointer (some ⟨P, 0, none⟩)] w (Post P src T R w (.int .i64 a) s1)

theorem is_at1 {P : Nat} {src : ByteArray} {T : List Tok} {R : Nat → Prop} {s : PS} {w : World} (h : Par w P src T R s) (x : ByteArray) {b : Bool} (hb : b = isS T [x.data.toList] s) :
    Calls Tryz.prog 31 #[.pointer (some ⟨P, 0, none⟩), .slice (some ⟨w.heap.size, 0, none⟩) 1 1] (w.alloc (.cells #[.string x] 9)) fun e w' => e = .returned (.bool b) ∧ Keeps (fun _ => False) w w' := by
  rw [hb]
  exact is_one h x _
theorem is_at2 {P : Nat} {src : ByteArray} {T : List Tok} {R : Nat → Prop} {s : PS} {w : World} (h : Par w P src T R s) (x y : ByteArray) {b : Bool} (hb : b = isS T [x.data.toList, y.data.toList] s) :
    Calls Tryz.prog 31 #[.pointer (some ⟨P, 0, none⟩), .slice (some ⟨w.heap.size, 0, none⟩) 2 2] (w.alloc (.cells #[.string x, .string y] 9)) fun e w' => e = .returned (.bool b) ∧ Keeps (fun _ => False) w w' := by
  rw [hb]
  exact (is_any (h.keep (Keeps.one w _)) [x, y] w.heap.size 0 2 rfl (by omega) (fun j hj => by
    rw [Nat.zero_add, World.cell?_alloc_mark w #[.string x, .string y] 9 (0, 0) j]
    match j, hj with
    | 0, _ => rfl
    | 1, _ => rfl)).mono fun e w' ⟨h1, k⟩ => ⟨h1, (Keeps.one w _).trans k (fun _ _ h => h)⟩
theorem is_at4 {P : Nat} {src : ByteArray} {T : List Tok} {R : Nat → Prop} {s : PS} {w : World} (h : Par w P src T R s) (x y z u : ByteArray) {b : Bool} (hb : b = isS T [x.data.toList, y.data.toList, z.data.toList, u.data.toList] s) :
    Calls Tryz.prog 31 #[.pointer (some ⟨P, 0, none⟩), .slice (some ⟨w.heap.size, 0, none⟩) 4 4] (w.alloc (.cells #[.string x, .string y, .string z, .string u] 9)) fun e w' => e = .returned (.bool b) ∧ Keeps (fun _ => False) w w' := by
  rw [hb]
  exact (is_any (h.keep (Keeps.one w _)) [x, y, z, u] w.heap.size 0 4 rfl (by omega) (fun j hj => by
    rw [Nat.zero_add, World.cell?_alloc_mark w #[.string x, .string y, .string z, .string u] 9 (0, 0) j]
    match j, hj with
    | 0, _ => rfl
    | 1, _ => rfl
    | 2, _ => rfl
    | 3, _ => rfl)).mono fun e w' ⟨h1, k⟩ => ⟨h1, (Keeps.one w _).trans k (fun _ _ h => h)⟩
theorem line_at {P : Nat} {src : ByteArray} {T : List Tok} {R : Nat → Prop} {s : PS} {w : World} (hsz : src.size ≤ 1000) (h : Par w P src T R s) {ln : Int} (hl : ln = lineS src.data.toList T s) :
    Calls Tryz.prog 28 #[.pointer (some ⟨P, 0, none⟩)] w fun e w' => e = .returned (.int .i64 ln) ∧ Keeps (fun _ => False) w w' := by
  rw [hl]
  exact pline_any hsz h
theorem now_at {P : Nat} {src : ByteArray} {T : List Tok} {R : Nat → Prop} {s : PS} {w : World} (h : Par w P src T R s) {t : Tok} (ht : t = tokA T s) :
    Calls Tryz.prog 15 #[.pointer (some ⟨P, 0, none⟩)] w fun e w' => e = .returned (.agg #[.int .i64 (t.k : Int), .string (ofL t.x), .int .i64 (t.p : Int)]) ∧ Keeps (fun _ => False) w w' := by
  rw [ht]
  exact now_any h
theorem next_at {P : Nat} {src : ByteArray} {T : List Tok} {R : Nat → Prop} {s s1 : PS} {w : World} (h : Par w P src T R s) (e : s1 = nextS T s) : Calls Tryz.prog 33 #[.pointer (some ⟨P, 0, none⟩)] w (Post P src T R w (.tuple #[]) s1) := by
  rw [e]
  exact next_any h
theorem want_at {P : Nat} {src : ByteArray} {T : List Tok} {R : Nat → Prop} {s s1 : PS} {w : World} (h : Par w P src T R s) (x : ByteArray) (e : s1 = wantS T x.data.toList s) : Calls Tryz.prog 29 #[.pointer (some ⟨P, 0, none⟩), .string x] w (Post P src T R w (.tuple #[]) s1) := by
  rw [e]
  exact want_any h x
theorem fail_at {P : Nat} {src : ByteArray} {T : List Tok} {R : Nat → Prop} {s s1 : PS} {w : World} (h : Par w P src T R s) (k : Nat) (e : s1 = failS T k s) : Calls Tryz.prog 57 #[.pointer (some ⟨P, 0, none⟩), .int .i64 (k : Int)] w (Post P src T R w (.tuple #[]) s1) := by
  rw [e]
  exact fail_any h k
theorem name_at {P : Nat} {src : ByteArray} {T : List Tok} {R : Nat → Prop} {s s1 : PS} {w : World} {x : List UInt8} (h : Par w P src T R s) (e : s1 = nameS T s) (ex : x = nameX T s) : Calls Tryz.prog 30 #[.pointer (some ⟨P, 0, none⟩)] w (Post P src T R w (.string (ofL x)) s1) := by
  rw [e, ex]
  exact pname_any h

theorem Loc.set {w : World} {R : Nat → Prop} {X : Nat} {vs : List Value} (h : Loc w R X vs) (j : Nat) (u : Value) (hj : j < vs.length) : Loc (w.setCell ⟨X, j, none⟩ u) R X (vs.set j u) := by
  refine ⟨by simpa using h.lt, h.out, fun k v hv => ?_, fun k => (World.frozen?_setCell w _ _ _).trans (h.fz k)⟩
  by_cases e : j = k
  · subst e
    rw [List.getElem?_set_self hj] at hv
    cases hv
    exact cell_same w X j u _ (h.cells j vs[j] (List.getElem?_eq_getElem hj))
  · rw [List.getElem?_set_ne e] at hv
    exact (cell_other w j k u (.inl e)).trans (h.cells k v hv)
set_option maxRecDepth 100000 in
set_option maxHeartbeats 8000000 in
theorem shut_any {P : Nat} {src : ByteArray} {T : List Tok} {R : Nat → Prop} {s s1 : PS} {w : World} (h : Par w P src T R s) (x : ByteArray) {u : Unit} (hm : shutM T x.data.toList s = some (u, s1)) : Calls Tryz.prog 61 #[.pointer (some ⟨P, 0, none⟩), .string x] w (Post P src T R w (.tuple #[]) s1) := by
  have H := Lib.hid h
  obtain ⟨s2, e2, hm⟩ := mod_out hm
  obtain ⟨hd, e1⟩ := deep_out hm
  have WC := Lib.hid (want_at h x e2)
  have E1 := Lib.hid e1
  clear hm e1 e2 h
  go_enter Tryz.func61, Tryz.ntmps61
  go_wp2_with fail
  refine WC.out.mono ?_
  rintro e w1 ⟨rfl, R1, hp, hf⟩
  have hs := hp.see
  have c6 := hs.c6
  have f6 := hs.fz 6
  have hw := IntWalk.i64_in (s2.dp - 1) (by omega)
  have hset := hp.setDp (s2.dp - 1)
  have HF : Hid (Post P src T R w (.tuple #[]) s1 (.returned (.tuple #[])) (w1.setCell ⟨P, 6, none⟩ (.int .i64 (s2.dp - 1)))) := Lib.hid ⟨rfl, R1, by rw [E1.out]; exact hset.1, hf.trans hset.2⟩
  generalize s2.dp = dp at c6 hw HF hd
  clear hs hset hp hf WC E1 hd H
  go_wp2_with fail
  exact bodyPost_end (v := .tuple #[]) (by simp [results, Tryz.results61, go_sem]) rfl HF.out
set_option maxRecDepth 100000 in
set_option maxHeartbeats 8000000 in
theorem open_any {P : Nat} {src : ByteArray} {T : List Tok} {R : Nat → Prop} {s s1 : PS} {w : World} (h : Par w P src T R s) (x : ByteArray) {u : Unit} (hm : openM T x.data.toList s = some (u, s1)) : Calls Tryz.prog 59 #[.pointer (some ⟨P, 0, none⟩), .string x] w (Post P src T R w (.tuple #[]) s1) := by
  have H := Lib.hid h
  obtain ⟨s3, e3, hm⟩ := mod_out hm
  obtain ⟨hd, e1⟩ := deep_out hm
  have hdp : s3.dp = s.dp := by
    rw [e3]
    unfold openS
    rw [wantS_dp]
    split
    · exact failS_dp T 21 s
    · rfl
  have E1 := Lib.hid e1
  obtain ⟨b, hb⟩ : ∃ b, b = isS T [x.data.toList] s := ⟨_, rfl⟩
  have IC := Lib.hid (is_at1 h x hb)
  have c6 := h.see.c6
  unfold openS at e3
  rw [← hb] at e3
  clear hm e1 hb h
  cases b with
  | false =>
    have E3 : Hid (s3 = wantS T x.data.toList s) := Lib.hid (by rw [e3]; rfl)
    clear e3 hdp c6
    go_enter Tryz.func59, Tryz.ntmps59
    go_wp2_with fail
    refine IC.out.mono ?_
    rintro e w1 ⟨rfl, k1⟩
    have WC := Lib.hid (want_at (H.out.keep k1) x E3.out)
    clear IC E3
    go_wp2_with fail
    refine WC.out.mono ?_
    rintro e w2 ⟨rfl, R1, hp, hf⟩
    have HP2 := Lib.hid hp
    have HF2 := Lib.hid (((Fr.refl R w).keeps k1).trans hf)
    clear WC hp hf k1
    have hs := HP2.out.see
    have c6 := hs.c6
    have f6 := hs.fz 6
    have hw := IntWalk.i64_in (s3.dp + 1) (by omega)
    have hset := HP2.out.setDp (s3.dp + 1)
    have HF : Hid (Post P src T R w (.tuple #[]) s1 (.returned (.tuple #[])) (w2.setCell ⟨P, 6, none⟩ (.int .i64 (s3.dp + 1)))) := Lib.hid ⟨rfl, _, by rw [E1.out]; exact hset.1, HF2.out.trans hset.2⟩
    generalize s3.dp = dp at c6 hw HF hd
    clear hs hset HP2 HF2 E1 hd H
    go_wp2_with fail
    exact bodyPost_end (v := .tuple #[]) (by simp [results, Tryz.results59, go_sem]) rfl HF.out
  | true =>
    by_cases h16 : 16 ≤ s.dp
    · have d16 : decide (16 ≤ s.dp) = true := decide_eq_true h16
      obtain ⟨s4, e4⟩ : ∃ s4, s4 = failS T 21 s := ⟨_, rfl⟩
      have E3 : Hid (s3 = wantS T x.data.toList s4) := Lib.hid (by rw [e3, d16, e4]; rfl)
      have E4 := Lib.hid e4
      clear e3 e4 hdp
      go_enter Tryz.func59, Tryz.ntmps59
      go_wp2_with fail
      refine IC.out.mono ?_
      rintro e w1 ⟨rfl, k1⟩
      have c6 := (H.out.keep k1).see.c6
      have FC := Lib.hid (fail_at (H.out.keep k1) 21 E4.out)
      clear IC
      go_wp2_with fail
      refine FC.out.mono ?_
      rintro e w3 ⟨rfl, R3, hp3, hf3⟩
      have WC := Lib.hid (want_at hp3 x E3.out)
      clear FC
      go_wp2_with fail
      refine WC.out.mono ?_
      rintro e w2 ⟨rfl, R1, hp, hf⟩
      have HP2 := Lib.hid hp
      have HF2 := Lib.hid ((((Fr.refl R w).keeps k1).trans hf3).trans hf)
      clear WC hp hf k1 hf3 hp3 c6 h16 d16 E3 E4
      have hs := HP2.out.see
      have c6 := hs.c6
      have f6 := hs.fz 6
      have hw := IntWalk.i64_in (s3.dp + 1) (by omega)
      have hset := HP2.out.setDp (s3.dp + 1)
      have HF : Hid (Post P src T R w (.tuple #[]) s1 (.returned (.tuple #[])) (w2.setCell ⟨P, 6, none⟩ (.int .i64 (s3.dp + 1)))) := Lib.hid ⟨rfl, _, by rw [E1.out]; exact hset.1, HF2.out.trans hset.2⟩
      generalize s3.dp = dp at c6 hw HF hd
      clear hs hset HP2 HF2 E1 hd H
      go_wp2_with fail
      exact bodyPost_end (v := .tuple #[]) (by simp [results, Tryz.results59, go_sem]) rfl HF.out
    · have d16 : decide (16 ≤ s.dp) = false := decide_eq_false h16
      have E3 : Hid (s3 = wantS T x.data.toList s) := Lib.hid (by rw [e3, d16]; rfl)
      clear e3 hdp c6
      go_enter Tryz.func59, Tryz.ntmps59
      go_wp2_with fail
      refine IC.out.mono ?_
      rintro e w1 ⟨rfl, k1⟩
      have WC := Lib.hid (want_at (H.out.keep k1) x E3.out)
      have c6 := (H.out.keep k1).see.c6
      clear IC E3
      go_wp2_with fail
      refine WC.out.mono ?_
      rintro e w2 ⟨rfl, R1, hp, hf⟩
      have HP2 := Lib.hid hp
      have HF2 := Lib.hid (((Fr.refl R w).keeps k1).trans hf)
      clear WC hp hf k1 c6 h16 d16
      have hs := HP2.out.see
      have c6 := hs.c6
      have f6 := hs.fz 6
      have hw := IntWalk.i64_in (s3.dp + 1) (by omega)
      have hset := HP2.out.setDp (s3.dp + 1)
      have HF : Hid (Post P src T R w (.tuple #[]) s1 (.returned (.tuple #[])) (w2.setCell ⟨P, 6, none⟩ (.int .i64 (s3.dp + 1)))) := Lib.hid ⟨rfl, _, by rw [E1.out]; exact hset.1, HF2.out.trans hset.2⟩
      generalize s3.dp = dp at c6 hw HF hd
      clear hs hset HP2 HF2 E1 hd H
      go_wp2_with fail
      exact bodyPost_end (v := .tuple #[]) (by simp [results, Tryz.results59, go_sem]) rfl HF.out
end Go.Proofs.YtgelggdgbmldiaaGreatDoor

namespace Go.Proofs.YtgelggdgbmldiaaGreatDoor
open Go Go.RowKit Go.Shelf
set_option linter.unusedVariables false
set_option linter.unusedSimpArgs false
set_option maxRecDepth 100000 in
set_option maxHeartbeats 8000000 in
theorem type_any (x : ByteArray) (w : World) : Calls Tryz.prog 11 #[.string x] w fun e w' => e = .returned (.int .i64 (typeN x.data.toList)) ∧ w' = w := by
  have key : ∀ (b1 b2 b3 b4 : Bool), b1 = decide (x.data.toList = [105, 110, 116]) → b2 = decide (x.data.toList = [98, 111, 111, 108]) → b3 = decide (x.data.toList = [116, 101, 120, 116]) → b4 = decide (x.data.toList = [108, 105, 115, 116]) → typeN x.data.toList = (if b1 then 1 else if b2 then 2 else if b3 then 3 else if b4 then 4 else 0) := by
    rintro _ _ _ _ rfl rfl rfl rfl
    unfold typeN
    simp only [decide_eq_true_eq]
  obtain ⟨b1, e1⟩ : ∃ b, b = decide (x.data.toList = [105, 110, 116]) := ⟨_, rfl⟩
  obtain ⟨b2, e2⟩ : ∃ b, b = decide (x.data.toList = [98, 111, 111, 108]) := ⟨_, rfl⟩
  obtain ⟨b3, e3⟩ : ∃ b, b = decide (x.data.toList = [116, 101, 120, 116]) := ⟨_, rfl⟩
  obtain ⟨b4, e4⟩ : ∃ b, b = decide (x.data.toList = [108, 105, 115, 116]) := ⟨_, rfl⟩
  rw [key b1 b2 b3 b4 e1 e2 e3 e4]
  have q1 : (x.toList == [105, 110, 116]) = b1 := by rw [e1]; exact word_beq x _
  have q2 : (x.toList == [98, 111, 111, 108]) = b2 := by rw [e2]; exact word_beq x _
  have q3 : (x.toList == [116, 101, 120, 116]) = b3 := by rw [e3]; exact word_beq x _
  have q4 : (x.toList == [108, 105, 115, 116]) = b4 := by rw [e4]; exact word_beq x _
  clear key e1 e2 e3 e4
  cases b1 with
  | true =>
    go_enter Tryz.func11, Tryz.ntmps11
    go_wp2
    go_ret
    exact ⟨rfl, rfl⟩
  | false =>
    cases b2 with
    | true =>
      go_enter Tryz.func11, Tryz.ntmps11
      go_wp2
      go_ret
      exact ⟨rfl, rfl⟩
    | false =>
      cases b3 with
      | true =>
        go_enter Tryz.func11, Tryz.ntmps11
        go_wp2
        go_ret
        exact ⟨rfl, rfl⟩
      | false =>
        cases b4 with
        | true =>
          go_enter Tryz.func11, Tryz.ntmps11
          go_wp2
          go_ret
          exact ⟨rfl, rfl⟩
        | false =>
          go_enter Tryz.func11, Tryz.ntmps11
          go_wp2
          go_ret
          exact ⟨rfl, rfl⟩
set_option maxRecDepth 100000 in
set_option maxHeartbeats 8000000 in
theorem calls_any {P : Nat} {src : ByteArray} {T : List Tok} {R : Nat → Prop} {s : PS} {w : World} (h : Par w P src T R s) : Calls Tryz.prog 79 #[.pointer (some ⟨P, 0, none⟩)] w fun e w' => e = .returned (.bool (callsS T s)) ∧ Keeps (fun _ => False) w w' := by
  have H := Lib.hid h
  have NC := Lib.hid (now_at h (t := tokA T s) rfl)
  obtain ⟨k, hk⟩ : ∃ k : Int, k = ((tokA T s).k : Int) := ⟨_, rfl⟩
  have F0 : ∀ w, Sem.run Tryz.prog (Instr.field 38 (.agg #[.int .i64 k, .string (ofL (tokA T s).x), .int .i64 ((tokA T s).p : Int)]) 0) w = .ok (.int .i64 k) w := fun w => tok_field0 _ _ _ w
  rw [← hk] at NC
  by_cases h3 : k = 3
  · have hk3 : (tokA T s).k = 3 := by omega
    have hmore := h.more (by rw [hk3]; decide)
    have hE : callsS T s = (decide (((T.getD (s.i + 1) default).k : Int) = 5) && decide ((T.getD (s.i + 1) default).x = [40])) := by
      unfold callsS
      rw [decide_eq_true hk3, Bool.true_and]
      congr 1
      exact decide_eq_decide.2 (by omega)
    rw [hE]
    have hle := h.ok.le
    obtain ⟨A, cT, v, L, h⟩ := h
    have hP := h.lo
    obtain ⟨b, off, rfl, hc⟩ := h.tok (by omega)
    obtain ⟨t0, t1, t2⟩ := hc (s.i + 1) (by omega)
    have c1 := h.c1
    have c2 := h.c2
    obtain ⟨n, hn⟩ : ∃ n, n = T.length := ⟨_, rfl⟩
    rw [← hn] at c1 hmore hle
    generalize ((T.getD (s.i + 1) default).k : Int) = tk at t0 ⊢
    generalize (T.getD (s.i + 1) default).x = tx at t1 ⊢
    generalize ((T.getD (s.i + 1) default).p : Int) = tp at t2
    generalize tokA T s = tz at NC F0
    generalize s.i = i at c2 t0 t1 t2 hmore
    have i1 : IntKind.i64.wrap ((i : Int) + 1) = (i : Int) + 1 := IntWalk.i64_in _ (by omega)
    have h0 : (0 : Int) ≤ (i : Int) + 1 := by omega
    have h1 : (i : Int) + 1 < (n : Int) := by omega
    have h2 : ((i : Int) + 1).toNat = i + 1 := by omega
    have hne : (k != 3) = false := by rw [h3]; rfl
    have qx : ((ofL tx).toList == [40]) = decide (tx = [40]) := by rw [word_beq, ofL_list]
    obtain ⟨bx, hbx⟩ : ∃ bx, bx = decide (tx = [40]) := ⟨_, rfl⟩
    rw [← hbx] at qx ⊢
    have hb := cell_ltk t0
    have C := Lib.hid (And.intro c1 (And.intro c2 (And.intro t0 (And.intro t1 t2))))
    clear hE hk3 hk h3 h hc H hn c1 c2 t0 t1 t2 hbx
    go_enter Tryz.func79, Tryz.ntmps79
    go_wp2_with fail
    refine NC.out.mono ?_
    rintro e w1 ⟨rfl, k1⟩
    obtain ⟨c1, c2, t0, t1, t2⟩ := C.out
    have c1 := (k1.cell hP (fun h => h)).trans c1
    have c2 := (k1.cell hP (fun h => h)).trans c2
    have t0 := (k1.cell hb (fun h => h)).trans t0
    have t1 := (k1.cell hb (fun h => h)).trans t1
    have t2 := (k1.cell hb (fun h => h)).trans t2
    have K1 := Lib.hid k1
    have ka := Keeps.one w1 (.cells #[.int .i64 0, .string { data := #[] }, .int .i64 0] 38)
    have d1 := (ka.cell (cell_ltk c1) (fun h => h)).trans c1
    have d2 := (ka.cell (cell_ltk c2) (fun h => h)).trans c2
    have u0 := (ka.cell (cell_ltk t0) (fun h => h)).trans t0
    have u1 := (ka.cell (cell_ltk t1) (fun h => h)).trans t1
    have u2 := (ka.cell (cell_ltk t2) (fun h => h)).trans t2
    clear k1 NC C ka
    go_wp2_with fail
    go_region
    have K2 : Hid (Keeps (fun _ => False) w ((w1.alloc (.cells #[.int .i64 tk, .string (ofL tx), .int .i64 tp] 38)).drew)) := Lib.hid (K1.out.alloc _).drew
    have z := Loc.new (w := w1) (R := fun _ => False) (fun h => h) [.int .i64 tk, .string (ofL tx), .int .i64 tp] 38
    obtain ⟨X, hX⟩ : ∃ X, X = w1.heap.size := ⟨_, rfl⟩
    obtain ⟨w2, hw2⟩ : ∃ w2, w2 = (w1.alloc (.cells #[.int .i64 tk, .string (ofL tx), .int .i64 tp] 38)).drew := ⟨_, rfl⟩
    have z0 : w2.cell? ⟨X, 0, none⟩ = some (.int .i64 tk) := by rw [hw2, hX]; exact z.cells 0 _ rfl
    have z1 : w2.cell? ⟨X, 1, none⟩ = some (.string (ofL tx)) := by rw [hw2, hX]; exact z.cells 1 _ rfl
    rw [← hX]
    rw [← hw2] at K2 ⊢
    clear hw2 hX z K1 c1 c2 t0 t1 t2 d1 d2 u0 u1 u2
    by_cases h5 : tk = 5
    · rw [h5] at z0
      have DD : Hid (decide (tk = 5) = true) := Lib.hid (decide_eq_true h5)
      clear h5
      go_wp2_with fail
      go_ret
      exact ⟨by rw [DD.out]; rfl, K2.out⟩
    · have DD : Hid (decide (tk = 5) = false) := Lib.hid (decide_eq_false h5)
      have d5 : (tk == 5) = false := by simpa using h5
      clear h5
      go_wp2_with fail
      go_ret
      exact ⟨by rw [DD.out]; rfl, K2.out⟩
  · have hk3 : ¬ (tokA T s).k = 3 := by omega
    have hE : callsS T s = false := by unfold callsS; rw [decide_eq_false hk3]; rfl
    rw [hE]
    have hne : (k != 3) = true := by simpa using h3
    generalize tokA T s = tz at NC F0
    clear hE hk3 hk h H h3
    go_enter Tryz.func79, Tryz.ntmps79
    go_wp2_with fail
    refine NC.out.mono ?_
    rintro e w1 ⟨rfl, k1⟩
    have K1 := Lib.hid k1
    clear k1 NC
    go_wp2_with fail
    go_ret
    exact ⟨rfl, K1.out⟩
end Go.Proofs.YtgelggdgbmldiaaGreatDoor

namespace Go.Proofs.YtgelggdgbmldiaaGreatDoor
open Go Go.RowKit Go.Shelf
set_option linter.unusedVariables false
set_option linter.unusedSimpArgs false

def valI (l : List Int) : List Value := l.map (fun x => .int .i64 x)
theorem valI_append (l m : List Int) : valI (l ++ m) = valI l ++ valI m := by simp [valI]
theorem valI_length (l : List Int) : (valI l).length = l.length := by simp [valI]
theorem valI_at (l : List Int) (k : Nat) (h : k < l.length) : (valI l)[k]? = some (.int .i64 (l.getD k 0)) := by
  unfold valI
  rw [List.getElem?_map, List.getElem?_eq_getElem h]
  simp [List.getD, List.getElem?_eq_getElem h]
theorem valI_one (l : List Int) : ∀ u ∈ valI l, u.oneCell' = true := by
  intro u hu
  obtain ⟨x, _, rfl⟩ := List.mem_map.1 hu
  rfl
theorem info_int : (Tryz.prog.info? 3).map (fun i => (i.zero, i.size, i.bytes)) = some (some (.int .i64 0), 1, 8) := by kernel_rfl
theorem own_rdI {w : World} {A : Option Addr} {n c : Nat} {l : List Int} (h : w.ownsRow 0 3 1 (.slice A n c) n (valI l)) (hn : n = l.length) : RdI w A l := fun h0 => by
  rcases h.2 with ⟨e1, h1⟩ | ⟨g, cap, cur, e1, _⟩
  · omega
  · have e2 : A = some ⟨g, 0, none⟩ := by injection e1
    subst e2
    refine ⟨g, 0, rfl, fun k hk => ?_⟩
    rw [Nat.zero_add]
    exact (h.cellAt k (by omega)).trans (valI_at l k hk)
theorem newsI {w : World} (z : Int) (t : TypeId) : ∀ j u, (valI [z])[j]? = some u → (w.alloc (.cells #[.int .i64 z] t)).cell? ((⟨w.heap.size, 0, none⟩ : Addr).add j) = some u := by
  intro j u h
  have e : (⟨w.heap.size, 0, none⟩ : Addr).add j = ⟨w.heap.size, j, none⟩ := by unfold Addr.add; split <;> simp_all
  rw [e, World.cell?_alloc_mark]
  match j, h with
  | 0, h => simpa [valI] using h

/-- What goes below a node: a row that is not the parser's. -/
def NewRow (P : Nat) (R : Nat → Prop) (a : Option Addr) (l : List Int) : Prop := 0 < l.length → ∃ X off, a = some ⟨X, off, none⟩ ∧ ¬ R X ∧ P < X

/-- The contract of a function that puts a node. -/
def NodeC (P : Nat) (src : ByteArray) (T : List Tok) (f : Nat) (mm : Nd → List Int → PM Int) : Prop :=
  ∀ (k ln n : Int) (x : List UInt8) (l : List Int) (s s' : PS) (r : Int) (R : Nat → Prop) (w : World) (a0 : Option Addr) (m0 c0 : Nat) (a : Option Addr) (c : Nat), mm ⟨k, ln, n, x, []⟩ l s = some (r, s') → Par w P src T R s → RdI w a l → NewRow P R a l →
    Calls Tryz.prog f #[.pointer (some ⟨P, 0, none⟩), .agg #[.int .i64 k, .int .i64 ln, .int .i64 n, .string (ofL x), .slice a0 m0 c0], .slice a l.length c] w fun e w' => e = .returned (.int .i64 r) ∧ ∃ R', Par w' P src T R' s' ∧ Keeps R w w' ∧ ∀ b, b < w.heap.size → R' b → R b ∨ ∃ off, a = some ⟨b, off, none⟩

theorem nodeC (P : Nat) (src : ByteArray) (T : List Tok) : NodeC P src T 62 nodeM := by
  intro k ln n x l s s' r R w a0 m0 c0 a c hm hp hr hn
  obtain ⟨h1, rfl, rfl⟩ := node_out hm
  by_cases h0 : 0 < l.length
  · obtain ⟨X, off, e1, hX, hPX⟩ := hn h0
    refine (node_any hp ⟨k, ln, n, x, []⟩ a0 m0 c0 a c l hr X (fun _ => ⟨off, e1⟩) hX hPX h1).mono fun e w' ⟨h1, R', h2, h3, h4⟩ => ⟨h1, R', h2, h3, fun b hb hr => (h4 b hb hr).imp id fun e2 => ⟨off, by rw [e2]; exact e1⟩⟩
  · refine (node_any hp ⟨k, ln, n, x, []⟩ a0 m0 c0 a c l hr w.heap.size (fun h => absurd h h0) hp.new hp.lo h1).mono fun e w' ⟨h1, R', h2, h3, h4⟩ => ⟨h1, R', h2, h3, fun b hb hr => (h4 b hb hr).imp id fun e => by omega⟩

section
variable {P : Nat} {src : ByteArray} {T : List Tok} {f : Nat} {mm : Nd → List Int → PM Int} {R : Nat → Prop} {s s' : PS} {w : World} {r : Int}
theorem NodeC.nil (h : NodeC P src T f mm) (hp : Par w P src T R s) (k ln n : Int) (x : List UInt8) (hm : mm ⟨k, ln, n, x, []⟩ [] s = some (r, s')) :
    Calls Tryz.prog f #[.pointer (some ⟨P, 0, none⟩), .agg #[.int .i64 k, .int .i64 ln, .int .i64 n, .string (ofL x), .slice none 0 0], .slice none 0 0] w (Post P src T R w (.int .i64 r) s') :=
  (h k ln n x [] s s' r R w none 0 0 none 0 hm hp (fun h => absurd h (by simp)) (fun h => absurd h (by simp))).mono fun e w' ⟨h1, R', h2, h3, h4⟩ => ⟨h1, R', h2, h3, fun b hb hr => (h4 b hb hr).elim id (fun ⟨off, e⟩ => by cases e)⟩
theorem NodeC.fresh (h : NodeC P src T f mm) (hp : Par w P src T R s) (k ln n : Int) (x : List UInt8) (l : List Int) (o : Obj) (m : Nat) (hl : m = l.length) (hr : RdI (w.alloc o) (some ⟨w.heap.size, 0, none⟩) l) (hm : mm ⟨k, ln, n, x, []⟩ l s = some (r, s')) :
    Calls Tryz.prog f #[.pointer (some ⟨P, 0, none⟩), .agg #[.int .i64 k, .int .i64 ln, .int .i64 n, .string (ofL x), .slice none 0 0], .slice (some ⟨w.heap.size, 0, none⟩) m m] (w.alloc o) (Post P src T R w (.int .i64 r) s') := by
  subst hl
  refine (h k ln n x l s s' r R (w.alloc o) none 0 0 (some ⟨w.heap.size, 0, none⟩) l.length hm (hp.keep (Keeps.one w o)) hr (fun _ => ⟨w.heap.size, 0, rfl, hp.new, hp.lo⟩)).mono fun e w' ⟨h1, R', h2, h3, h4⟩ => ⟨h1, R', h2, ?_, fun b hb hr => ?_⟩
  · exact ((Keeps.one w o).mono (T := R) (fun _ _ h => h.elim)).trans h3 (fun _ _ h => h)
  · rcases h4 b (by rw [World.size_alloc]; omega) hr with h5 | ⟨off, e⟩
    · exact h5
    · cases e
      exact absurd hb (Nat.lt_irrefl _)
theorem NodeC.one (h : NodeC P src T f mm) (hp : Par w P src T R s) (k ln n : Int) (x : List UInt8) (a : Int) (hm : mm ⟨k, ln, n, x, []⟩ [a] s = some (r, s')) :
    Calls Tryz.prog f #[.pointer (some ⟨P, 0, none⟩), .agg #[.int .i64 k, .int .i64 ln, .int .i64 n, .string (ofL x), .slice none 0 0], .slice (some ⟨w.heap.size, 0, none⟩) 1 1] (w.alloc (.cells #[.int .i64 a] 3)) (Post P src T R w (.int .i64 r) s') :=
  h.fresh hp k ln n x [a] _ 1 rfl (fun _ => ⟨w.heap.size, 0, rfl, fun j hj => by
    have : j = 0 := by simp at hj; omega
    subst this
    exact World.cell?_alloc_mark w #[.int .i64 a] 3 (0, 0) 0⟩) hm
theorem NodeC.two (h : NodeC P src T f mm) (hp : Par w P src T R s) (k ln n : Int) (x : List UInt8) (a b : Int) (hm : mm ⟨k, ln, n, x, []⟩ [a, b] s = some (r, s')) :
    Calls Tryz.prog f #[.pointer (some ⟨P, 0, none⟩), .agg #[.int .i64 k, .int .i64 ln, .int .i64 n, .string (ofL x), .slice none 0 0], .slice (some ⟨w.heap.size, 0, none⟩) 2 2] (w.alloc (.cells #[.int .i64 a, .int .i64 b] 3)) (Post P src T R w (.int .i64 r) s') :=
  h.fresh hp k ln n x [a, b] _ 2 rfl (fun _ => ⟨w.heap.size, 0, rfl, fun j hj => by
    rw [Nat.zero_add, World.cell?_alloc_mark w #[.int .i64 a, .int .i64 b] 3 (0, 0) j]
    match j, hj with
    | 0, _ => rfl
    | 1, _ => rfl⟩) hm
/-- A row that the caller made since its beginning, at w0. -/
theorem NodeC.row (h : NodeC P src T f mm) (hp : Par w P src T R s) (k ln n : Int) (x : List UInt8) (l : List Int) {A : Option Addr} {m c : Nat} (hl : m = l.length) (ho : w.ownsRow 0 3 1 (.slice A m c) m (valI l)) {R0 : Nat → Prop} {w0 : World} (hf : Fr R0 w0 R w) (hP0 : P < w0.heap.size)
    (hb : ∀ g, (Value.slice A m c).ownBlock = some g → ¬ R g ∧ w0.heap.size ≤ g) (hm : mm ⟨k, ln, n, x, []⟩ l s = some (r, s')) :
    Calls Tryz.prog f #[.pointer (some ⟨P, 0, none⟩), .agg #[.int .i64 k, .int .i64 ln, .int .i64 n, .string (ofL x), .slice none 0 0], .slice A m c] w (Post P src T R0 w0 (.int .i64 r) s') := by
  have hr := own_rdI ho hl
  subst hl
  have form : 0 < l.length → ∃ g, A = some ⟨g, 0, none⟩ ∧ (Value.slice A l.length c).ownBlock = some g := fun h0 => by
    rcases ho.2 with ⟨e1, h1⟩ | ⟨g, cap, cur, e1, _⟩
    · omega
    · have e2 : A = some ⟨g, 0, none⟩ := by injection e1
      exact ⟨g, e2, by rw [e2]; rfl⟩
  refine (h k ln n x l s s' r R w none 0 0 A c hm hp hr (fun h0 => ?_)).mono fun e w' ⟨h1, R', h2, h3, h4⟩ => ⟨h1, R', h2, hf.1.trans h3 (fun x hx hr => hf.2 x hx hr), fun b hb2 hr2 => ?_⟩
  · obtain ⟨g, e, eb⟩ := form h0
    exact ⟨g, 0, e, (hb g eb).1, Nat.lt_of_lt_of_le hP0 (hb g eb).2⟩
  · rcases h4 b (Nat.lt_of_lt_of_le hb2 hf.1.size) hr2 with h5 | ⟨off, e⟩
    · exact hf.2 b hb2 h5
    · exfalso
      rcases ho.2 with ⟨e1, h1⟩ | ⟨g, cap, cur, e1, _⟩
      · have e2 : A = none := by injection e1
        rw [e2] at e
        cases e
      · have e2 : A = some ⟨g, 0, none⟩ := by injection e1
        have hg := (hb g (by rw [e2]; rfl)).2
        rw [e2] at e
        cases e
        omega
end

theorem own_keep {w w' : World} {R R' : Nat → Prop} {v : Value} {n : Nat} {xs : List Value} (h : w.ownsRow 0 3 1 v n xs) (f : Fr R w R' w') {B : Nat} (hb : ∀ g, v.ownBlock = some g → ¬ R g ∧ B ≤ g) :
    w'.ownsRow 0 3 1 v n xs ∧ ∀ g, v.ownBlock = some g → ¬ R' g ∧ B ≤ g :=
  ⟨ownsRow_keep h (fun g hg => f.1.block g (own_ltk h hg) (hb g hg).1), fun g hg => ⟨fun hr => (hb g hg).1 (f.2 g (own_ltk h hg) hr), (hb g hg).2⟩⟩
/-- A number more, behind what the caller made. -/
theorem own_more {w w1 w5 : World} {R R0 : Nat → Prop} {w0 : World} {P : Nat} {src : ByteArray} {T : List Tok} {s : PS} {v v5 : Value} (hp : Par w P src T R s) (hf : Fr R0 w0 R w) (hP0 : P < w0.heap.size) (hb : ∀ g, v.ownBlock = some g → ¬ R g ∧ w0.heap.size ≤ g) (k1 : Keeps (fun _ => False) w w1)
    (hg : w1.grownBy w5 v.ownBlock) (h5 : v5.ownBlock = v.ownBlock ∨ v5.ownBlock = some w1.heap.size) :
    Par w5 P src T R s ∧ Fr R0 w0 R w5 ∧ (∀ g, v5.ownBlock = some g → ¬ R g ∧ w0.heap.size ≤ g) ∧ Keeps (fun b => v.ownBlock = some b) w w5 := by
  have k15 : Keeps (fun b => v.ownBlock = some b) w1 w5 := ⟨hg.os, hg.tape, hg.output, hg.size, fun b hb hn => hg.block b hb (fun e => hn e.symm)⟩
  have k : Keeps (fun b => v.ownBlock = some b) w w5 := (k1.mono (T := fun b => v.ownBlock = some b) (fun _ _ h => h.elim)).trans k15 (fun _ _ h => h)
  refine ⟨hp.keepR k (fun b hr hv => (hb b hv).1 hr) (fun b hv => Nat.le_of_lt (Nat.lt_of_lt_of_le hP0 (hb b hv).2)), ⟨hf.1.trans (T := fun b => v.ownBlock = some b) k (fun x hx hv => absurd (hb x hv).2 (by omega)), hf.2⟩, fun g hg5 => ?_, k⟩
  rcases h5 with e | e
  · rw [e] at hg5
    exact hb g hg5
  · rw [e] at hg5
    cases hg5
    have h1 := k1.size
    have h2 := hf.1.size
    exact ⟨fun hr => by have := hp.lt _ hr; omega, by omega⟩
theorem Loc.keepsR {w w' : World} {R : Nat → Prop} {X : Nat} {vs : List Value} (h : Loc w R X vs) {S : Nat → Prop} (k : Keeps S w w') (hX : ¬ S X) : Loc w' R X vs :=
  ⟨Nat.lt_of_lt_of_le h.lt k.size, h.out, fun j u hu => (k.cell h.lt hX).trans (h.cells j u hu), fun j => (k.frozen h.lt hX).trans (h.fz j)⟩

end Go.Proofs.YtgelggdgbmldiaaGreatDoor

namespace Go.Proofs.YtgelggdgbmldiaaGreatDoor
set_option linter.unusedVariables false
set_option linter.unusedSimpArgs false

section
variable (src : List UInt8) (T : List Tok)

def isR (x : List UInt8) (s : PS) : Bool := decide (s.er = 0) && ((decide ((tokA T s).k = 5) || decide ((tokA T s).k = 4)) && decide ((tokA T s).x = x))
def kindR (k : Nat) (s : PS) : Bool := decide (s.er = 0) && decide ((tokA T s).k = k)
def failR (e : Nat) (s : PS) : PS := if s.er = 0 then { s with pl := (tokA T s).p, er := e } else s
def stepR (s : PS) : PS := { s with i := s.i + 1 }
def mustR (x : List UInt8) (s : PS) : PS := if isR T x s then stepR s else failR T 20 s
def wnameR (s : PS) : PS := if kindR T 3 s then stepR s else failR T 20 s
def wnameX (s : PS) : List UInt8 := if kindR T 3 s then (tokA T s).x else []
def callsR (s : PS) : Bool := kindR T 3 s && (decide ((T.getD (s.i + 1) default).k = 5) && decide ((T.getD (s.i + 1) default).x = [40]))
def deepR (s : PS) : PS := if 16 ≤ s.dp then failR T 21 s else s
def downR : PM Unit := do mod (deepR T); deepS 1
/-- One token on, where there is one. -/
def goR : PM Unit := fun s => if s.i + 1 < T.length then some ((), stepR s) else none

def withinR (ex : PM Int) (a b : List UInt8) : PM Int := do
  downR T
  mod (mustR T a)
  let x ← ex
  mod (mustR T b)
  deepS (-1)
  pure x

def ratomM (ex : PM Int) : PM Int := do
  let ln ← ask (lineS src T)
  let k ← ask (tokA T)
  let e ← ask PS.er
  if e ≠ 0 then pure 0
  else if k.k = 1 then (do
    goR T
    nodeM ⟨1, ln, intV k.x, [], []⟩ [])
  else if k.k = 2 then (do
    goR T
    nodeM ⟨3, ln, 0, k.x, []⟩ [])
  else if k.k = 3 then (do
    goR T
    let b ← ask (isR T [91])
    if b then (do
      let y ← withinR T ex [91] [93]
      nodeM ⟨5, ln, 0, k.x, []⟩ [y])
    else nodeM ⟨4, ln, 0, k.x, []⟩ [])
  else do
    let yes ← ask (isR T [116, 114, 117, 101])
    let no ← ask (isR T [102, 97, 108, 115, 101])
    if yes || no then (do
      goR T
      nodeM ⟨2, ln, if yes then 1 else 0, [], []⟩ [])
    else do
      let long ← ask (isR T [108, 101, 110])
      if long then goR T else pure ()
      let b ← ask (isR T [40])
      if b then (do
        let x ← withinR T ex [40] [41]
        if long then nodeM ⟨6, ln, 0, [], []⟩ [x] else pure x)
      else do
        mod (failR T 20)
        pure 0

def rfactorM (fac ex : PM Int) : PM Int := do
  let ln ← ask (lineS src T)
  let neg ← ask (isR T [45])
  let no ← ask (isR T [33])
  if neg || no then (do
    downR T
    goR T
    let x ← fac
    deepS (-1)
    nodeM ⟨if neg then 7 else 8, ln, 0, [], []⟩ [x])
  else ratomM src T ex

/-- Which sign of a level is next. -/
def nextR (l : List (List UInt8)) (s : PS) : List UInt8 := ((l.filter (fun x => isR T x s)).head?).getD []

def rchainR (lv : Nat) (sub : PM Int) (ln : Int) : Nat → Int → PM Int
  | 0, _ => fun _ => none
  | n + 1, x => do
    let g ← ask (nextR T (signsL lv))
    if g = [] then pure x
    else do
      goR T
      let y ← sub
      let z ← nodeM ⟨9, ln, 0, g, []⟩ [x, y]
      if lv = 2 then pure z else rchainR lv sub ln n z

def rexM : Nat → Nat → PM Int
  | 0, _ => fun _ => none
  | n + 1, lv =>
    if lv = 5 then rfactorM src T (rexM n 5) (rexM n 0)
    else do
      let ln ← ask (lineS src T)
      let x ← rexM n (lv + 1)
      rchainR T lv (rexM n (lv + 1)) ln n x

/-- What stands between commas. -/
def rargsR (ex : PM Int) : Nat → List Int → PM (List Int)
  | 0, _ => fun _ => none
  | n + 1, l => do
    let x ← ex
    let b ← ask (isR T [44])
    if b then (do
      goR T
      rargsR ex n (l ++ [x]))
    else pure (l ++ [x])
def rcallM (N : Nat) (ex : PM Int) : PM Int := do
  let ln ← ask (lineS src T)
  let x ← ask (wnameX T)
  mod (wnameR T)
  mod (mustR T [40])
  let b ← ask (fun s => !(isR T [41] s) && decide (s.er = 0))
  let l ← (if b then rargsR T ex N [] else pure [])
  mod (mustR T [41])
  nodeM ⟨21, ln, 0, x, []⟩ l

def rrightM (N : Nat) (ex : PM Int) : PM Int := do
  let ln ← ask (lineS src T)
  let b ← ask (isR T [105, 110, 112, 117, 116])
  if b then (do
    goR T
    nodeM ⟨19, ln, 0, [], []⟩ [])
  else do
    let b ← ask (isR T [110, 101, 119])
    if b then (do
      goR T
      mod (mustR T [40])
      let x ← ex
      mod (mustR T [41])
      nodeM ⟨20, ln, 0, [], []⟩ [x])
    else do
      let b ← ask (callsR T)
      if b then rcallM src T N ex else ex

def rnamedM (N : Nat) (ex : PM Int) (ln : Int) : PM Int := do
  let b ← ask (callsR T)
  if b then (do
    let x ← rcallM src T N ex
    mod (mustR T [59])
    nodeM ⟨13, ln, 0, [], []⟩ [x])
  else do
    let x ← ask (wnameX T)
    mod (wnameR T)
    let b ← ask (isR T [91])
    if b then (do
      let y ← withinR T ex [91] [93]
      mod (mustR T [61])
      let z ← ex
      mod (mustR T [59])
      nodeM ⟨12, ln, 0, x, []⟩ [y, z])
    else do
      mod (mustR T [61])
      let y ← rrightM src T N ex
      mod (mustR T [59])
      nodeM ⟨11, ln, 0, x, []⟩ [y]

def wordR (s : PS) : List UInt8 := if kindR T 4 s then (tokA T s).x else []

def rstatementM (N : Nat) (ex bl : PM Int) : PM Int := do
  let ln ← ask (lineS src T)
  let w ← ask (wordR T)
  if w = [108, 101, 116] then (do
    goR T
    let x ← ask (wnameX T)
    mod (wnameR T)
    mod (mustR T [61])
    let y ← rrightM src T N ex
    mod (mustR T [59])
    nodeM ⟨10, ln, 0, x, []⟩ [y])
  else if w = [112, 114, 105, 110, 116] then (do
    goR T
    let x ← ex
    mod (mustR T [59])
    nodeM ⟨14, ln, 0, [], []⟩ [x])
  else if w = [119, 104, 105, 108, 101] then (do
    goR T
    let x ← ex
    let y ← bl
    nodeM ⟨16, ln, 0, [], []⟩ [x, y])
  else if w = [105, 102] then (do
    goR T
    let x ← ex
    let y ← bl
    let b ← ask (isR T [101, 108, 115, 101])
    if b then (do
      goR T
      let z ← bl
      nodeM ⟨15, ln, 0, [], []⟩ [x, y, z])
    else nodeM ⟨15, ln, 0, [], []⟩ [x, y])
  else if w = [114, 101, 116, 117, 114, 110] then (do
    goR T
    let b ← ask (isR T [59])
    if b then (do
      mod (mustR T [59])
      nodeM ⟨17, ln, 0, [], []⟩ [])
    else do
      let x ← ex
      mod (mustR T [59])
      nodeM ⟨17, ln, 0, [], []⟩ [x])
  else rnamedM src T N ex ln

def rstmsR (st : PM Int) : Nat → List Int → PM (List Int)
  | 0, _ => fun _ => none
  | n + 1, l => do
    let b ← ask (fun s => decide (s.er = 0) && !(isR T [125] s))
    if b then (do
      let x ← st
      rstmsR st n (l ++ [x]))
    else pure l
def rblockM (N : Nat) (st : PM Int) : PM Int := do
  let ln ← ask (lineS src T)
  let b ← ask (isR T [123])
  if b then (do
    downR T
    mod (mustR T [123])
    let l ← rstmsR T st N []
    mod (mustR T [125])
    deepS (-1)
    nodeM ⟨18, ln, 0, [], []⟩ l)
  else do
    mod (failR T 20)
    pure 0
def rstM (N : Nat) : Nat → PM Int
  | 0 => fun _ => none
  | n + 1 => rstatementM src T N (rexM src T N 0) (rblockM src T N (rstM N n))

def typedM : PM Int := do
  let w ← ask (wordR T)
  if typeN w = 0 then (do
    mod (failR T 20)
    pure 0)
  else do
    goR T
    pure (typeN w)
def rparamsR : Nat → List (List UInt8 × Int) → PM (List (List UInt8 × Int))
  | 0, _ => fun _ => none
  | n + 1, l => do
    let x ← ask (wnameX T)
    mod (wnameR T)
    let t ← typedM T
    let b ← ask (isR T [44])
    if b then (do
      goR T
      rparamsR n (l ++ [(x, t)]))
    else pure (l ++ [(x, t)])
def rfunctionM (N : Nat) : PM Fnc := do
  let ln ← ask (lineS src T)
  mod (mustR T [102, 110])
  let x ← ask (wnameX T)
  mod (wnameR T)
  mod (mustR T [40])
  let b ← ask (fun s => !(isR T [41] s) && decide (s.er = 0))
  let ps ← (if b then rparamsR T N [] else pure [])
  mod (mustR T [41])
  let b ← ask (isR T [123])
  let r ← (if b then pure 0 else typedM T)
  let y ← rblockM src T N (rstM src T N N)
  pure ⟨x, ln, ps, r, y⟩
def rfnsR (N : Nat) : Nat → List Fnc → PM (List Fnc)
  | 0, _ => fun _ => none
  | n + 1, l => do
    let b ← ask (fun s => decide (s.er = 0) && !(kindR T 0 s))
    if b then (do
      let x ← rfunctionM src T N
      rfnsR N n (l ++ [x]))
    else pure l
end

def allR (N : Nat) (src : List UInt8) : Option ((Nat × Nat) ⊕ (List Nd × List Fnc)) :=
  if 600 < src.length then some (.inl (0, 4))
  else match (lexL src 0).2 with
    | some pe => some (.inl pe)
    | none => (rfnsR src (lexL src 0).1 N N [] ⟨0, 0, 0, [], 0⟩).map fun p => treeP p.1 p.2

end Go.Proofs.YtgelggdgbmldiaaGreatDoor

namespace Go.Proofs.YtgelggdgbmldiaaGreatDoor
open Go Go.RowKit Go.Shelf
set_option linter.unusedVariables false
set_option linter.unusedSimpArgs false

/-- A reader in memory: at block P, in blocks of R alone. -/
structure RedX (w : World) (P : Nat) (src : ByteArray) (T : List Tok) (A : Option Addr) (cT : Nat) (R : Nat → Prop) (s : PS) (v : Value) (L : List NM) : Prop where
  c0 : w.cell? ⟨P, 0, none⟩ = some (.string src)
  c1 : w.cell? ⟨P, 1, none⟩ = some (.slice A T.length cT)
  c2 : w.cell? ⟨P, 2, none⟩ = some (.int .i64 (s.i : Int))
  c3 : w.cell? ⟨P, 3, none⟩ = some v
  c4 : w.cell? ⟨P, 4, none⟩ = some (.int .i64 s.dp)
  c5 : w.cell? ⟨P, 5, none⟩ = some (.int .i64 (s.er : Int))
  c6 : w.cell? ⟨P, 6, none⟩ = some (.int .i64 (s.pl : Int))
  fz : ∀ k, w.frozen? ⟨P, k, none⟩ = false
  lt : ∀ b, R b → b < w.heap.size
  rp : R P
  tok : RdT w A T
  tb : ∀ b off, A = some ⟨b, off, none⟩ → R b ∧ b ≠ P ∧ ∀ g, v.ownBlock = some g → b ≠ g
  own : w.ownsRow 0 42 5 v L.length (flatN L)
  vb : ∀ g, v.ownBlock = some g → R g ∧ g ≠ P
  nd : L.map NM.d = s.nd
  ls : ∀ x ∈ L, RdI w x.a x.d.l ∧ (0 < x.d.l.length → ∀ b off, x.a = some ⟨b, off, none⟩ → R b ∧ b ≠ P ∧ ∀ g, v.ownBlock = some g → b ≠ g)
  hi : s.i < T.length
  ok : TokOK T
def Red (w : World) (P : Nat) (src : ByteArray) (T : List Tok) (R : Nat → Prop) (s : PS) : Prop := ∃ A cT v L, RedX w P src T A cT R s v L

theorem RedX.lo {w : World} {P : Nat} {src : ByteArray} {T : List Tok} {A : Option Addr} {cT : Nat} {R : Nat → Prop} {s : PS} {v : Value} {L : List NM} (h : RedX w P src T A cT R s v L) : P < w.heap.size := h.lt P h.rp

theorem RedX.keepR {w w' : World} {P : Nat} {src : ByteArray} {T : List Tok} {A : Option Addr} {cT : Nat} {R : Nat → Prop} {s : PS} {v : Value} {L : List NM} (h : RedX w P src T A cT R s v L) {S : Nat → Prop} (k : Keeps S w w') (hS : ∀ b, R b → ¬ S b) (hSP : ∀ b, S b → P ≤ b) : RedX w' P src T A cT R s v L := by
  have hP := hS P h.rp
  have hlt := h.lo
  exact { c0 := (k.cell hlt hP).trans h.c0, c1 := (k.cell hlt hP).trans h.c1, c2 := (k.cell hlt hP).trans h.c2, c3 := (k.cell hlt hP).trans h.c3, c4 := (k.cell hlt hP).trans h.c4, c5 := (k.cell hlt hP).trans h.c5, c6 := (k.cell hlt hP).trans h.c6, fz := fun j => (k.frozen hlt hP).trans (h.fz j), lt := fun b hb => Nat.lt_of_lt_of_le (h.lt b hb) k.size, rp := h.rp, tok := h.tok.keepR k (fun _ b off e => hS b (h.tb b off e).1), tb := h.tb, own := ownsRow_keep h.own (fun g hg => k.block g (own_ltk h.own hg) (hS g (h.vb g hg).1)), vb := h.vb, nd := h.nd, ls := fun x hx => ⟨(h.ls x hx).1.keep k (fun h0 b off e => hS b ((h.ls x hx).2 h0 b off e).1), (h.ls x hx).2⟩, hi := h.hi, ok := h.ok }
theorem Red.keepR {w w' : World} {P : Nat} {src : ByteArray} {T : List Tok} {R : Nat → Prop} {s : PS} (h : Red w P src T R s) {S : Nat → Prop} (k : Keeps S w w') (hS : ∀ b, R b → ¬ S b) (hSP : ∀ b, S b → P ≤ b) : Red w' P src T R s := by
  obtain ⟨A, cT, v, L, h⟩ := h
  exact ⟨A, cT, v, L, h.keepR k hS hSP⟩
theorem Red.keep {w w' : World} {P : Nat} {src : ByteArray} {T : List Tok} {R : Nat → Prop} {s : PS} (h : Red w P src T R s) (k : Keeps (fun _ => False) w w') : Red w' P src T R s := h.keepR k (fun _ _ h => h) (fun _ h => h.elim)
theorem Red.local {w : World} {P : Nat} {src : ByteArray} {T : List Tok} {R : Nat → Prop} {s : PS} (h : Red w P src T R s) {X : Nat} (hX : ¬ R X) (hPX : P < X) (k : Nat) (u : Value) : Red (w.setCell ⟨X, k, none⟩ u) P src T R s :=
  h.keepR (S := fun b => b = X) ((Keeps.refl (fun b => b = X) w).setCell (p := ⟨X, k, none⟩) (fun _ => rfl) u) (fun b hb e => hX (e ▸ hb)) (fun b e => by have e : b = X := e; omega)
theorem Red.lt {w : World} {P : Nat} {src : ByteArray} {T : List Tok} {R : Nat → Prop} {s : PS} (h : Red w P src T R s) : ∀ b, R b → b < w.heap.size := by
  obtain ⟨A, cT, v, L, h⟩ := h
  exact h.lt
theorem Red.rp {w : World} {P : Nat} {src : ByteArray} {T : List Tok} {R : Nat → Prop} {s : PS} (h : Red w P src T R s) : R P := by
  obtain ⟨A, cT, v, L, h⟩ := h
  exact h.rp
theorem Red.lo {w : World} {P : Nat} {src : ByteArray} {T : List Tok} {R : Nat → Prop} {s : PS} (h : Red w P src T R s) : P < w.heap.size := h.lt P h.rp
theorem Red.new {w : World} {P : Nat} {src : ByteArray} {T : List Tok} {R : Nat → Prop} {s : PS} (h : Red w P src T R s) : ¬ R w.heap.size := fun hr => Nat.lt_irrefl _ (h.lt _ hr)

/-- The cell of a number is written. -/
theorem RedX.set {w : World} {P : Nat} {src : ByteArray} {T : List Tok} {A : Option Addr} {cT : Nat} {R : Nat → Prop} {s s' : PS} {v : Value} {L : List NM} (h : RedX w P src T A cT R s v L) (j : Nat) (z : Int)
    (hj : (j = 2 ∧ z = s'.i ∧ s'.pl = s.pl ∧ s'.er = s.er ∧ s'.dp = s.dp) ∨ (j = 6 ∧ z = s'.pl ∧ s'.i = s.i ∧ s'.er = s.er ∧ s'.dp = s.dp) ∨ (j = 5 ∧ z = s'.er ∧ s'.i = s.i ∧ s'.pl = s.pl ∧ s'.dp = s.dp) ∨ (j = 4 ∧ z = s'.dp ∧ s'.i = s.i ∧ s'.pl = s.pl ∧ s'.er = s.er))
    (hn : s'.nd = s.nd) (hi : s'.i < T.length) : RedX (w.setCell ⟨P, j, none⟩ (.int .i64 z)) P src T A cT R s' v L ∧ Fr R w R (w.setCell ⟨P, j, none⟩ (.int .i64 z)) := by
  have k : Keeps (fun b => b = P) w (w.setCell ⟨P, j, none⟩ (.int .i64 z)) := (Keeps.refl (fun b => b = P) w).setCell (p := ⟨P, j, none⟩) (fun _ => rfl) _
  have hlt := h.lo
  have same : ∀ i x, j = i → w.cell? ⟨P, i, none⟩ = some x → (w.setCell ⟨P, j, none⟩ (.int .i64 z)).cell? ⟨P, i, none⟩ = some (.int .i64 z) := fun i x e hx => by subst e; exact cell_same w P j _ x hx
  have oth : ∀ i x, j ≠ i → w.cell? ⟨P, i, none⟩ = some x → (w.setCell ⟨P, j, none⟩ (.int .i64 z)).cell? ⟨P, i, none⟩ = some x := fun i x e hx => (cell_other w j i _ (.inl e)).trans hx
  refine ⟨?_, k.mono (fun b _ e => by rw [e]; exact h.rp), fun _ _ h => h⟩
  refine { c0 := oth _ _ (by omega) h.c0, c1 := oth _ _ (by omega) h.c1, c2 := ?_, c3 := oth _ _ (by omega) h.c3, c4 := ?_, c5 := ?_, c6 := ?_, fz := fun i => (World.frozen?_setCell w _ _ _).trans (h.fz i), lt := fun b hb => Nat.lt_of_lt_of_le (h.lt b hb) k.size, rp := h.rp, tok := h.tok.keepR k (fun _ b off e => (h.tb b off e).2.1), tb := h.tb, own := ownsRow_keep h.own (fun g hg => k.block g (own_ltk h.own hg) (h.vb g hg).2), vb := h.vb, nd := by rw [hn]; exact h.nd, ls := fun x hx => ⟨(h.ls x hx).1.keep k (fun h0 b off e => ((h.ls x hx).2 h0 b off e).2.1), (h.ls x hx).2⟩, hi := hi, ok := h.ok }
  · rcases hj with ⟨rfl, rfl, _, _, _⟩ | ⟨rfl, _, e, _, _⟩ | ⟨rfl, _, e, _, _⟩ | ⟨rfl, _, e, _, _⟩
    · exact same 2 _ rfl h.c2
    · rw [e]; exact oth 2 _ (by omega) h.c2
    · rw [e]; exact oth 2 _ (by omega) h.c2
    · rw [e]; exact oth 2 _ (by omega) h.c2
  · rcases hj with ⟨rfl, _, _, _, e⟩ | ⟨rfl, _, _, _, e⟩ | ⟨rfl, _, _, _, e⟩ | ⟨rfl, rfl, _, _, _⟩
    · rw [e]; exact oth 4 _ (by omega) h.c4
    · rw [e]; exact oth 4 _ (by omega) h.c4
    · rw [e]; exact oth 4 _ (by omega) h.c4
    · exact same 4 _ rfl h.c4
  · rcases hj with ⟨rfl, _, _, e, _⟩ | ⟨rfl, _, _, e, _⟩ | ⟨rfl, rfl, _, _, _⟩ | ⟨rfl, _, _, _, e⟩
    · rw [e]; exact oth 5 _ (by omega) h.c5
    · rw [e]; exact oth 5 _ (by omega) h.c5
    · exact same 5 _ rfl h.c5
    · rw [e]; exact oth 5 _ (by omega) h.c5
  · rcases hj with ⟨rfl, _, e, _, _⟩ | ⟨rfl, rfl, _, _, _⟩ | ⟨rfl, _, _, e, _⟩ | ⟨rfl, _, _, e, _⟩
    · rw [e]; exact oth 6 _ (by omega) h.c6
    · exact same 6 _ rfl h.c6
    · rw [e]; exact oth 6 _ (by omega) h.c6
    · rw [e]; exact oth 6 _ (by omega) h.c6


/-- What a call of the reader's leaves. -/
def PostR (P : Nat) (src : ByteArray) (T : List Tok) (R : Nat → Prop) (w : World) (r : Value) (s' : PS) (e : Ending) (w' : World) : Prop :=
  e = .returned r ∧ ∃ R', Red w' P src T R' s' ∧ Fr R w R' w'

theorem RedX.more {w : World} {P : Nat} {src : ByteArray} {T : List Tok} {A : Option Addr} {cT : Nat} {R : Nat → Prop} {s : PS} {v : Value} {L : List NM} (h : RedX w P src T A cT R s v L) (hk : (tokA T s).k ≠ 0) : s.i < T.length - 1 := by
  have h1 := h.hi
  have h2 := h.ok.last
  rcases Nat.lt_or_ge s.i (T.length - 1) with h3 | h3
  · exact h3
  · exfalso
    have h4 : s.i = T.length - 1 := by omega
    apply hk
    unfold tokA
    rw [h4]
    exact h2
theorem Red.more {w : World} {P : Nat} {src : ByteArray} {T : List Tok} {R : Nat → Prop} {s : PS} (h : Red w P src T R s) (hk : (tokA T s).k ≠ 0) : s.i < T.length - 1 := by
  obtain ⟨A, cT, v, L, h⟩ := h
  exact h.more hk
theorem Red.post {w w' : World} {P : Nat} {src : ByteArray} {T : List Tok} {R : Nat → Prop} {s : PS} (h : Red w P src T R s) (k : Keeps (fun _ => False) w w') (r : Value) : PostR P src T R w r s (.returned r) w' :=
  ⟨rfl, R, h.keep k, (Fr.refl R w).keeps k⟩
theorem Red.setI {w : World} {P : Nat} {src : ByteArray} {T : List Tok} {R : Nat → Prop} {s : PS} (h : Red w P src T R s) (i : Nat) (hi : i < T.length) : Red (w.setCell ⟨P, 2, none⟩ (.int .i64 (i : Int))) P src T R { s with i := i } ∧ Fr R w R (w.setCell ⟨P, 2, none⟩ (.int .i64 (i : Int))) := by
  obtain ⟨A, cT, v, L, h⟩ := h
  have h2 := h.set (s' := { s with i := i }) 2 (i : Int) (.inl ⟨rfl, rfl, rfl, rfl, rfl⟩) rfl hi
  exact ⟨⟨A, cT, v, L, h2.1⟩, h2.2⟩
theorem Red.setPl {w : World} {P : Nat} {src : ByteArray} {T : List Tok} {R : Nat → Prop} {s : PS} (h : Red w P src T R s) (i : Nat) : Red (w.setCell ⟨P, 6, none⟩ (.int .i64 (i : Int))) P src T R { s with pl := i } ∧ Fr R w R (w.setCell ⟨P, 6, none⟩ (.int .i64 (i : Int))) := by
  obtain ⟨A, cT, v, L, h⟩ := h
  have h2 := h.set (s' := { s with pl := i }) 6 (i : Int) (.inr (.inl ⟨rfl, rfl, rfl, rfl, rfl⟩)) rfl h.hi
  exact ⟨⟨A, cT, v, L, h2.1⟩, h2.2⟩
theorem Red.setEr {w : World} {P : Nat} {src : ByteArray} {T : List Tok} {R : Nat → Prop} {s : PS} (h : Red w P src T R s) (i : Nat) : Red (w.setCell ⟨P, 5, none⟩ (.int .i64 (i : Int))) P src T R { s with er := i } ∧ Fr R w R (w.setCell ⟨P, 5, none⟩ (.int .i64 (i : Int))) := by
  obtain ⟨A, cT, v, L, h⟩ := h
  have h2 := h.set (s' := { s with er := i }) 5 (i : Int) (.inr (.inr (.inl ⟨rfl, rfl, rfl, rfl, rfl⟩))) rfl h.hi
  exact ⟨⟨A, cT, v, L, h2.1⟩, h2.2⟩
theorem Red.setDp {w : World} {P : Nat} {src : ByteArray} {T : List Tok} {R : Nat → Prop} {s : PS} (h : Red w P src T R s) (d : Int) : Red (w.setCell ⟨P, 4, none⟩ (.int .i64 d)) P src T R { s with dp := d } ∧ Fr R w R (w.setCell ⟨P, 4, none⟩ (.int .i64 d)) := by
  obtain ⟨A, cT, v, L, h⟩ := h
  have h2 := h.set (s' := { s with dp := d }) 4 d (.inr (.inr (.inr ⟨rfl, rfl, rfl, rfl, rfl⟩))) rfl h.hi
  exact ⟨⟨A, cT, v, L, h2.1⟩, h2.2⟩

/-- What a walk reads of a parser in memory. -/
structure SeeR (w : World) (P : Nat) (src : ByteArray) (i pl er : Nat) (dp : Int) (n : Nat) : Prop where
  c0 : w.cell? ⟨P, 0, none⟩ = some (.string src)
  c1 : ∃ A cT, w.cell? ⟨P, 1, none⟩ = some (.slice A n cT)
  c2 : w.cell? ⟨P, 2, none⟩ = some (.int .i64 (i : Int))
  c4 : w.cell? ⟨P, 4, none⟩ = some (.int .i64 dp)
  c5 : w.cell? ⟨P, 5, none⟩ = some (.int .i64 (er : Int))
  c6 : w.cell? ⟨P, 6, none⟩ = some (.int .i64 (pl : Int))
  fz : ∀ k, w.frozen? ⟨P, k, none⟩ = false
theorem Red.see {w : World} {P : Nat} {src : ByteArray} {T : List Tok} {R : Nat → Prop} {s : PS} (h : Red w P src T R s) : SeeR w P src s.i s.pl s.er s.dp T.length := by
  obtain ⟨A, cT, v, L, h⟩ := h
  exact ⟨h.c0, ⟨A, cT, h.c1⟩, h.c2, h.c4, h.c5, h.c6, h.fz⟩
theorem Red.hi {w : World} {P : Nat} {src : ByteArray} {T : List Tok} {R : Nat → Prop} {s : PS} (h : Red w P src T R s) : s.i < T.length := by
  obtain ⟨A, cT, v, L, h⟩ := h
  exact h.hi
theorem Red.ok {w : World} {P : Nat} {src : ByteArray} {T : List Tok} {R : Nat → Prop} {s : PS} (h : Red w P src T R s) : TokOK T := by
  obtain ⟨A, cT, v, L, h⟩ := h
  exact h.ok


/-- The row of the tokens, as a walk reads it. -/
theorem Red.toks {w : World} {P : Nat} {src : ByteArray} {T : List Tok} {R : Nat → Prop} {s : PS} (h : Red w P src T R s) : ∃ b off cT, b ≠ P ∧ w.cell? ⟨P, 1, none⟩ = some (.slice (some ⟨b, off, none⟩) T.length cT) ∧ ∀ k, k < T.length → w.cell? ⟨b, off + k * 3, none⟩ = some (.int .i64 ((T.getD k default).k : Int)) ∧ w.cell? ⟨b, off + k * 3 + 1, none⟩ = some (.string (ofL (T.getD k default).x)) ∧ w.cell? ⟨b, off + k * 3 + 2, none⟩ = some (.int .i64 ((T.getD k default).p : Int)) := by
  obtain ⟨A, cT, v, L, h⟩ := h
  have hi := h.hi
  obtain ⟨b, off, rfl, hc⟩ := h.tok (by omega)
  exact ⟨b, off, cT, (h.tb b off rfl).2.1, h.c1, hc⟩

/-- A number more, behind what the caller made. -/
theorem own_moreR {w w1 w5 : World} {R R0 : Nat → Prop} {w0 : World} {P : Nat} {src : ByteArray} {T : List Tok} {s : PS} {v v5 : Value} (hp : Red w P src T R s) (hf : Fr R0 w0 R w) (hP0 : P < w0.heap.size) (hb : ∀ g, v.ownBlock = some g → ¬ R g ∧ w0.heap.size ≤ g) (k1 : Keeps (fun _ => False) w w1)
    (hg : w1.grownBy w5 v.ownBlock) (h5 : v5.ownBlock = v.ownBlock ∨ v5.ownBlock = some w1.heap.size) :
    Red w5 P src T R s ∧ Fr R0 w0 R w5 ∧ (∀ g, v5.ownBlock = some g → ¬ R g ∧ w0.heap.size ≤ g) ∧ Keeps (fun b => v.ownBlock = some b) w w5 := by
  have k15 : Keeps (fun b => v.ownBlock = some b) w1 w5 := ⟨hg.os, hg.tape, hg.output, hg.size, fun b hb hn => hg.block b hb (fun e => hn e.symm)⟩
  have k : Keeps (fun b => v.ownBlock = some b) w w5 := (k1.mono (T := fun b => v.ownBlock = some b) (fun _ _ h => h.elim)).trans k15 (fun _ _ h => h)
  refine ⟨hp.keepR k (fun b hr hv => (hb b hv).1 hr) (fun b hv => Nat.le_of_lt (Nat.lt_of_lt_of_le hP0 (hb b hv).2)), ⟨hf.1.trans (T := fun b => v.ownBlock = some b) k (fun x hx hv => absurd (hb x hv).2 (by omega)), hf.2⟩, fun g hg5 => ?_, k⟩
  rcases h5 with e | e
  · rw [e] at hg5
    exact hb g hg5
  · rw [e] at hg5
    cases hg5
    have h1 := k1.size
    have h2 := hf.1.size
    exact ⟨fun hr => by have := hp.lt _ hr; omega, by omega⟩

end Go.Proofs.YtgelggdgbmldiaaGreatDoor
