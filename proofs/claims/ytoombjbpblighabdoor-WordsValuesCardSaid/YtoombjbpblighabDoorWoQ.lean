/-
  Layer 22: how the words behind a verb are said and heard. Written by an AI agent (woq.py).
-/
import Derived.Test.YtoombjbpblighabDoorWoP
namespace Go.Proofs.YtoombjbpblighabDoor
open Go Go.RowKit Go.Shelf
set_option linter.unusedVariables false
set_option linter.unusedSimpArgs false
set_option maxRecDepth 100000

def cmdV (m : Cm) : Value := .agg #[.string (ofL m.verb), .string (ofL m.a), .string (ofL m.b), .int .i64 m.n, .int .i64 m.v.ty, .int .i64 m.v.n, .string (ofL m.v.s)]
/-- What a block of seven cells asks for. -/
structure CmdAt (w : World) (p : Nat) (m : Cm) : Prop where
  c0 : w.cell? ⟨p, 0, none⟩ = some (.string (ofL m.verb))
  c1 : w.cell? ⟨p, 1, none⟩ = some (.string (ofL m.a))
  c2 : w.cell? ⟨p, 2, none⟩ = some (.string (ofL m.b))
  c3 : w.cell? ⟨p, 3, none⟩ = some (.int .i64 m.n)
  c4 : w.cell? ⟨p, 4, none⟩ = some (.int .i64 m.v.ty)
  c5 : w.cell? ⟨p, 5, none⟩ = some (.int .i64 m.v.n)
  c6 : w.cell? ⟨p, 6, none⟩ = some (.string (ofL m.v.s))
  f : ∀ i, i < 7 → w.frozen? ⟨p, i, none⟩ = false
theorem CmdAt.lt {w : World} {p : Nat} {m : Cm} (h : CmdAt w p m) : p < w.heap.size := cell_ltk h.c0
theorem CmdAt.keep {w w' : World} {p : Nat} {m : Cm} {Q : Nat → Prop} (h : CmdAt w p m) (k : Keeps Q w w') (hq : ¬ Q p) : CmdAt w' p m :=
  ⟨(k.cell h.lt hq).trans h.c0, (k.cell h.lt hq).trans h.c1, (k.cell h.lt hq).trans h.c2, (k.cell h.lt hq).trans h.c3, (k.cell h.lt hq).trans h.c4, (k.cell h.lt hq).trans h.c5, (k.cell h.lt hq).trans h.c6, fun i hi => (k.frozen h.lt hq).trans (h.f i hi)⟩
theorem CmdAt.fresh (w : World) (m : Cm) : CmdAt (w.alloc (.cells #[.string (ofL m.verb), .string (ofL m.a), .string (ofL m.b), .int .i64 m.n, .int .i64 m.v.ty, .int .i64 m.v.n, .string (ofL m.v.s)] 25)) w.heap.size m :=
  ⟨by simp, by simp, by simp, by simp, by simp, by simp, by simp, fun i hi => by simp⟩
structure SzC (m : Cm) : Prop where
  verb : m.verb.length ≤ 10000
  a : m.a.length ≤ 10000
  b : m.b.length ≤ 10000
  s : m.v.s.length ≤ 10000
  n : Rng m.n
  vn : Rng m.v.n
theorem ofL_self (s : ByteArray) : ofL s.data.toList = s := bytes_ext (ofL_list _)

set_option maxHeartbeats 4000000 in
theorem say13 (m : Cm) (hm : SzC m) (w : World) : Calls Tryd.prog 13 #[cmdV m] w fun e w' => e = .returned (.tuple #[.string (ofL m.a), .bool (nameN m.a)]) ∧ Keeps (fun _ => False) w w' := by
  have NC : Hid (∀ w, Calls Tryd.prog 14 #[.string (ofL m.a)] w fun e w' => e = .returned (.bool (nameN m.a)) ∧ w = w') := Lib.hid fun w => by
    have h := name_any (ofL m.a) (by rw [ofL_size]; have := hm.a; omega) w
    rw [ofL_list] at h
    exact h
  clear hm
  obtain ⟨q, hq⟩ : ∃ q, q = nameN m.a := ⟨_, rfl⟩
  rw [← hq] at NC ⊢
  unfold cmdV
  generalize ofL m.verb = x0 at NC ⊢
  generalize ofL m.a = x1 at NC ⊢
  generalize ofL m.b = x2 at NC ⊢
  generalize ofL m.v.s = x6 at NC ⊢
  generalize m.n = x3
  generalize m.v.ty = x4
  generalize m.v.n = x5
  clear hq
  go_enter Tryd.func13, Tryd.ntmps13
  go_wp2_with fail
  generalize hwA : w.alloc _ = wA
  have KA : Hid (Keeps (fun _ => False) w wA) := Lib.hid (by rw [← hwA]; exact (Keeps.refl _ _).alloc _)
  have c1 : wA.cell? ⟨w.heap.size, 1, none⟩ = some (.string x1) := by rw [← hwA]; simp
  have hl := cell_ltk c1
  clear hwA
  go_quiet ((go_at_call 14; exact Calls.quiet_of_same ((NC.out _).mono fun e w' h => ⟨h.1, h.2.symm⟩)))
  go_wp2
  go_ret2
  obtain ⟨h1, h2, h3, h4, h5⟩ := KA.out
  exact ⟨rfl, h1, h2, h3, h4, h5⟩

set_option maxHeartbeats 4000000 in
theorem say16 (m : Cm) (hm : SzC m) (w : World) : Calls Tryd.prog 16 #[cmdV m] w fun e w' => e = .returned (.tuple #[.string (ofL m.b), .bool (nameN m.b)]) ∧ Keeps (fun _ => False) w w' := by
  have NC : Hid (∀ w, Calls Tryd.prog 14 #[.string (ofL m.b)] w fun e w' => e = .returned (.bool (nameN m.b)) ∧ w = w') := Lib.hid fun w => by
    have h := name_any (ofL m.b) (by rw [ofL_size]; have := hm.b; omega) w
    rw [ofL_list] at h
    exact h
  clear hm
  obtain ⟨q, hq⟩ : ∃ q, q = nameN m.b := ⟨_, rfl⟩
  rw [← hq] at NC ⊢
  unfold cmdV
  generalize ofL m.verb = x0 at NC ⊢
  generalize ofL m.a = x1 at NC ⊢
  generalize ofL m.b = x2 at NC ⊢
  generalize ofL m.v.s = x6 at NC ⊢
  generalize m.n = x3
  generalize m.v.ty = x4
  generalize m.v.n = x5
  clear hq
  go_enter Tryd.func16, Tryd.ntmps16
  go_wp2_with fail
  generalize hwA : w.alloc _ = wA
  have KA : Hid (Keeps (fun _ => False) w wA) := Lib.hid (by rw [← hwA]; exact (Keeps.refl _ _).alloc _)
  have c1 : wA.cell? ⟨w.heap.size, 2, none⟩ = some (.string x2) := by rw [← hwA]; simp
  have hl := cell_ltk c1
  clear hwA
  go_quiet ((go_at_call 14; exact Calls.quiet_of_same ((NC.out _).mono fun e w' h => ⟨h.1, h.2.symm⟩)))
  go_wp2
  go_ret2
  obtain ⟨h1, h2, h3, h4, h5⟩ := KA.out
  exact ⟨rfl, h1, h2, h3, h4, h5⟩

set_option maxHeartbeats 4000000 in
theorem say18 (m : Cm) (hm : SzC m) (w : World) (hw : WordW w) : Calls Tryd.prog 18 #[cmdV m] w fun e w' => e = .returned (.tuple #[.string (ofL (Lib.itoa m.n)), .bool true]) ∧ Keeps (fun _ => False) w w' := by
  have NC : Hid (∀ o, Calls Tryd.prog 19 #[.int .i64 m.n] (w.alloc o) fun e w' => e = .returned (.string (ofL (Lib.itoa m.n))) ∧ Keeps (fun _ => False) (w.alloc o) w') := Lib.hid fun o => itoa_any m.n hm.n _ (hw.keep ((Keeps.refl _ _).alloc o))
  clear hm hw
  unfold cmdV
  generalize ofL (Lib.itoa m.n) = y at NC ⊢
  generalize ofL m.verb = x0
  generalize ofL m.a = x1
  generalize ofL m.b = x2
  generalize ofL m.v.s = x6
  generalize m.n = x3 at NC ⊢
  generalize m.v.ty = x4
  generalize m.v.n = x5
  go_enter Tryd.func18, Tryd.ntmps18
  go_wp2_with fail
  refine (NC.out _).mono ?_
  rintro e w1 ⟨rfl, k1⟩
  have K1 : Hid (Keeps (fun _ => False) w w1) := Lib.hid (((Keeps.refl (fun _ => False) w).alloc _).trans k1 (fun _ _ h => h))
  clear k1
  go_wp2
  go_ret2
  exact ⟨rfl, K1.out⟩

set_option maxHeartbeats 4000000 in
theorem say22 (m : Cm) (hm : SzC m) (w : World) (hw : WordW w) : Calls Tryd.prog 22 #[cmdV m] w fun e w' => e = .returned (.tuple #[.string (ofL (quotedN m.v)), .bool (speakN m.v)]) ∧ Keeps (fun _ => False) w w' := by
  have hsz : (ofL m.v.s).size ≤ 100000 := by rw [ofL_size]; have := hm.s; omega
  have QC0 : Hid (∀ w, WordW w → Calls Tryd.prog 23 #[.agg #[.int .i64 m.v.ty, .int .i64 m.v.n, .string (ofL m.v.s)]] w fun e w' => e = .returned (.string (ofL (quotedN m.v))) ∧ Keeps (fun _ => False) w w') := Lib.hid fun w h => by
    have q := quoted_any m.v.ty m.v.n (ofL m.v.s) hsz hm.vn w h
    rw [ofL_list] at q
    exact q
  have SC0 : Hid (∀ w, Calls Tryd.prog 24 #[.agg #[.int .i64 m.v.ty, .int .i64 m.v.n, .string (ofL m.v.s)]] w fun e w' => e = .returned (.bool (speakN m.v)) ∧ Keeps (fun _ => False) w w') := Lib.hid fun w => by
    have q := speak_any m.v.ty m.v.n (ofL m.v.s) hsz w
    rw [ofL_list] at q
    exact q
  have HW := Lib.hid hw
  clear hm hw hsz
  unfold cmdV
  generalize ofL (quotedN m.v) = y at QC0 ⊢
  generalize speakN m.v = z at SC0 ⊢
  generalize ofL m.verb = x0
  generalize ofL m.a = x1
  generalize ofL m.b = x2
  generalize ofL m.v.s = x6 at QC0 SC0 ⊢
  generalize m.n = x3
  generalize m.v.ty = x4 at QC0 SC0 ⊢
  generalize m.v.n = x5 at QC0 SC0 ⊢
  go_enter Tryd.func22, Tryd.ntmps22
  go_wp2_with fail
  generalize hwA : w.alloc _ = wA
  have KA : Hid (Keeps (fun _ => False) w wA) := Lib.hid (by rw [← hwA]; exact (Keeps.refl _ _).alloc _)
  have c4 : wA.cell? ⟨w.heap.size, 4, none⟩ = some (.int .i64 x4) := by rw [← hwA]; simp
  have c5 : wA.cell? ⟨w.heap.size, 5, none⟩ = some (.int .i64 x5) := by rw [← hwA]; simp
  have c6 : wA.cell? ⟨w.heap.size, 6, none⟩ = some (.string x6) := by rw [← hwA]; simp
  obtain ⟨pn, hpn⟩ : ∃ pn, pn = w.heap.size := ⟨_, rfl⟩
  rw [← hpn] at c4 c5 c6 ⊢
  have QC : Hid (∀ w', Keeps (fun _ => False) wA w' → Calls Tryd.prog 23 #[.agg #[.int .i64 x4, .int .i64 x5, .string x6]] w' fun e w'' => e = .returned (.string y) ∧ Keeps (fun _ => False) w' w'') := fun w' h => QC0.out w' (HW.out.keep (KA.out.trans h (fun _ _ h => h)))
  have SC : Hid (∀ w', Keeps (fun _ => False) wA w' → Calls Tryd.prog 24 #[.agg #[.int .i64 x4, .int .i64 x5, .string x6]] w' fun e w'' => e = .returned (.bool z) ∧ Keeps (fun _ => False) w' w'') := fun w' h => SC0.out w'
  clear hwA hpn QC0 SC0
  refine wp_region_held_drew (S := fun w' => w'.cell? ⟨pn, 4, none⟩ = some (.int .i64 x4) ∧ w'.cell? ⟨pn, 5, none⟩ = some (.int .i64 x5) ∧ w'.cell? ⟨pn, 6, none⟩ = some (.string x6) ∧ Keeps (fun _ => False) wA w') (by kernel_rfl) (⟨c4, c5, c6, (Keeps.refl _ _).drew⟩) (fun hHeld => ?_)
  clear c4 c5 c6
  refine wpAnyH_take (i := 0) (v := ?_) rfl (by kernel_rfl) (by kernel_rfl) (by kernel_rfl) (fun _ _ _ h => h) (Or.inl ⟨by rfl, ?_⟩) (by assumption) ?_
  rotate_left
  · (intro w' hSw; (try dsimp only at hSw); obtain ⟨c4, c5, c6, ck⟩ := hSw; go_simp; (try (with_reducible rfl)))
  simp only [Act.put, List.getElem_toArray, List.getElem_cons_succ, List.getElem_cons_zero, List.setIfInBounds_toArray, List.set_cons_succ, List.set_cons_zero]
  refine wpAnyH_take (i := 1) (v := ?_) rfl (by kernel_rfl) (by kernel_rfl) (by kernel_rfl) (fun _ _ _ h => h) (Or.inl ⟨by rfl, ?_⟩) (by assumption) ?_
  rotate_left
  · (intro w' hSw; (try dsimp only at hSw); obtain ⟨c4, c5, c6, ck⟩ := hSw; go_simp; (try (with_reducible rfl)))
  simp only [Act.put, List.getElem_toArray, List.getElem_cons_succ, List.getElem_cons_zero, List.setIfInBounds_toArray, List.set_cons_succ, List.set_cons_zero]
  refine wpAnyH_take (i := 3) (v := ?_) rfl (by kernel_rfl) (by kernel_rfl) (by kernel_rfl) (fun _ _ _ h => h) (Or.inl ⟨by rfl, ?_⟩) (by assumption) ?_
  rotate_left
  · (intro w' hSw; (try dsimp only at hSw); obtain ⟨c4, c5, c6, ck⟩ := hSw; go_simp; (try (with_reducible rfl)))
  simp only [Act.put, List.getElem_toArray, List.getElem_cons_succ, List.getElem_cons_zero, List.setIfInBounds_toArray, List.set_cons_succ, List.set_cons_zero]
  refine wpAnyH_take (i := 4) (v := ?_) rfl (by kernel_rfl) (by kernel_rfl) (by kernel_rfl) (fun _ _ _ h => h) (Or.inl ⟨by rfl, ?_⟩) (by assumption) ?_
  rotate_left
  · (intro w' hSw; (try dsimp only at hSw); obtain ⟨c4, c5, c6, ck⟩ := hSw; go_simp; (try (with_reducible rfl)))
  simp only [Act.put, List.getElem_toArray, List.getElem_cons_succ, List.getElem_cons_zero, List.setIfInBounds_toArray, List.set_cons_succ, List.set_cons_zero]
  refine wpAnyH_ready (rs := [2]) (by kernel_rfl) (by simp) ?_
  refine AllReadyH.cons rfl (fun K hK => ?_) AllReadyH.nil
  go_simp
  (go_at_call 23; refine (QC.out _ hHeld.2.2.2).mono ?_; rintro e w6 ⟨rfl, hb4⟩; (try go_simp))
  refine hK.out _ _ ?_ (fun hHeld => ?_)
  · (try dsimp only)
    exact ⟨(hb4.cell (cell_ltk hHeld.1) (fun h => h)).trans hHeld.1, (hb4.cell (cell_ltk hHeld.1) (fun h => h)).trans hHeld.2.1, (hb4.cell (cell_ltk hHeld.1) (fun h => h)).trans hHeld.2.2.1, hHeld.2.2.2.trans hb4 (fun _ _ h => h)⟩
  clear hK K
  refine wpAnyH_ready (rs := [5]) (by kernel_rfl) (by simp) ?_
  refine AllReadyH.cons rfl (fun K hK => ?_) AllReadyH.nil
  go_simp
  (go_at_call 24; refine (SC.out _ hHeld.2.2.2).mono ?_; rintro e w7 ⟨rfl, hb4⟩; (try go_simp))
  refine hK.out _ _ ?_ (fun hHeld => ?_)
  · (try dsimp only)
    exact ⟨(hb4.cell (cell_ltk hHeld.1) (fun h => h)).trans hHeld.1, (hb4.cell (cell_ltk hHeld.1) (fun h => h)).trans hHeld.2.1, (hb4.cell (cell_ltk hHeld.1) (fun h => h)).trans hHeld.2.2.1, hHeld.2.2.2.trans hb4 (fun _ _ h => h)⟩
  clear hK K
  refine wpAnyH_take (i := 6) (v := ?_) rfl (by kernel_rfl) (by kernel_rfl) (by kernel_rfl) (fun _ _ _ h => h) (Or.inl ⟨by rfl, ?_⟩) (by assumption) ?_
  rotate_left
  · (intro w' hSw; (try dsimp only at hSw); obtain ⟨c4, c5, c6, ck⟩ := hSw; go_simp; (try (with_reducible rfl)))
  simp only [Act.put, List.getElem_toArray, List.getElem_cons_succ, List.getElem_cons_zero, List.setIfInBounds_toArray, List.set_cons_succ, List.set_cons_zero]
  refine wpAnyH_take (i := 7) (v := ?_) rfl (by kernel_rfl) (by kernel_rfl) (by kernel_rfl) (fun _ _ _ h => h) (Or.inl ⟨by rfl, ?_⟩) (by assumption) ?_
  rotate_left
  · (intro w' hSw; (try dsimp only at hSw); obtain ⟨c4, c5, c6, ck⟩ := hSw; go_simp; (try (with_reducible rfl)))
  simp only [Act.put, List.getElem_toArray, List.getElem_cons_succ, List.getElem_cons_zero, List.setIfInBounds_toArray, List.set_cons_succ, List.set_cons_zero]
  refine wpAnyH_done (by kernel_rfl) ?_ _
  have K7 := Lib.hid (KA.out.trans hHeld.2.2.2 (fun _ _ h => h))
  clear hHeld QC SC
  go_wp2
  go_ret2
  exact ⟨rfl, K7.out⟩

set_option maxHeartbeats 4000000 in
theorem hear15 (s : ByteArray) (p : Nat) (m : Cm) (w : World) (hp : CmdAt w p m) : Calls Tryd.prog 15 #[.pointer (some ⟨p, 0, none⟩), .string s] w fun e w' => e = .returned (.tuple #[]) ∧ w' = w.setCell ⟨p, 1, none⟩ (.string s) := by
  have c0 := hp.c0
  have c1 := hp.c1
  have f1 := hp.f 1 (by omega)
  have hl := hp.lt
  clear hp
  go_enter Tryd.func15, Tryd.ntmps15
  go_wp2_with fail
  refine bodyPost_end (v := .tuple #[]) ?_ rfl ?_
  · simp [results, Tryd.results15, go_sem]
  · exact ⟨rfl, rfl⟩

set_option maxHeartbeats 4000000 in
theorem hear17 (s : ByteArray) (p : Nat) (m : Cm) (w : World) (hp : CmdAt w p m) : Calls Tryd.prog 17 #[.pointer (some ⟨p, 0, none⟩), .string s] w fun e w' => e = .returned (.tuple #[]) ∧ w' = w.setCell ⟨p, 2, none⟩ (.string s) := by
  have c0 := hp.c0
  have c1 := hp.c2
  have f1 := hp.f 2 (by omega)
  have hl := hp.lt
  clear hp
  go_enter Tryd.func17, Tryd.ntmps17
  go_wp2_with fail
  refine bodyPost_end (v := .tuple #[]) ?_ rfl ?_
  · simp [results, Tryd.results17, go_sem]
  · exact ⟨rfl, rfl⟩

set_option maxHeartbeats 4000000 in
theorem hear20 (s : ByteArray) (hs : s.size ≤ 100000) (p : Nat) (m : Cm) (w : World) (hw : WordW w) (hp : CmdAt w p m) : Calls Tryd.prog 20 #[.pointer (some ⟨p, 0, none⟩), .string s] w fun e w' => e = .returned (.tuple #[]) ∧ ∃ w1, Keeps (fun _ => False) w w1 ∧ w' = w1.setCell ⟨p, 3, none⟩ (.int .i64 (numN s.data.toList)) := by
  have NC := Lib.hid (num_any s hs w hw)
  have HP := Lib.hid hp
  clear hp hw
  generalize numN s.data.toList = y at NC ⊢
  go_enter Tryd.func20, Tryd.ntmps20
  go_wp2_with fail
  refine NC.out.mono ?_
  rintro e w1 ⟨rfl, k1⟩
  have K1 := Lib.hid k1
  have h1 := HP.out.keep k1 (fun h => h)
  have c0 := h1.c0
  have c1 := h1.c3
  have f1 := h1.f 3 (by omega)
  have hl := h1.lt
  clear h1 k1
  go_wp2_with fail
  refine bodyPost_end (v := .tuple #[]) ?_ rfl ?_
  · simp [results, Tryd.results20, go_sem]
  · exact ⟨rfl, w1, K1.out, rfl⟩
set_option maxHeartbeats 4000000 in
theorem hear25 (s : ByteArray) (hs : s.size ≤ 100000) (p : Nat) (m : Cm) (w : World) (hw : WordW w) (hp : CmdAt w p m) : Calls Tryd.prog 25 #[.pointer (some ⟨p, 0, none⟩), .string s] w fun e w' => e = .returned (.tuple #[]) ∧ ∃ w1, Keeps (fun _ => False) w w1 ∧ w' = ((w1.setCell ⟨p, 4, none⟩ (.int .i64 (heardN s.data.toList).ty)).setCell ⟨p, 5, none⟩ (.int .i64 (heardN s.data.toList).n)).setCell ⟨p, 6, none⟩ (.string (ofL (heardN s.data.toList).s)) := by
  have NC := Lib.hid (heard_any s hs w hw)
  have HP := Lib.hid hp
  clear hp hw
  unfold valV at NC
  generalize (heardN s.data.toList).ty = y4 at NC ⊢
  generalize (heardN s.data.toList).n = y5 at NC ⊢
  generalize ofL (heardN s.data.toList).s = y6 at NC ⊢
  go_enter Tryd.func25, Tryd.ntmps25
  go_wp2_with fail
  refine NC.out.mono ?_
  rintro e w1 ⟨rfl, k1⟩
  have K1 := Lib.hid k1
  have h1 := HP.out.keep k1 (fun h => h)
  have c0 := h1.c0
  have c4 := h1.c4
  have c5 := h1.c5
  have c6 := h1.c6
  have f4 := h1.f 4 (by omega)
  have f5 := h1.f 5 (by omega)
  have f6 := h1.f 6 (by omega)
  have hl := h1.lt
  clear h1 k1
  go_wp2_with fail
  refine bodyPost_end (v := .tuple #[]) ?_ rfl ?_
  · simp [results, Tryd.results25, go_sem]
  · exact ⟨rfl, w1, K1.out, rfl⟩
end Go.Proofs.YtoombjbpblighabDoor
