/-
  Layer 8: the reader's instruction. Written by an AI agent.
-/
import Derived.Test.YtoombjbpblighaaDoorCoR
import Derived.Laws.BytesArg
namespace Go.Proofs.YtoombjbpblighaaDoor
open Go Go.RowKit Go.Shelf
set_option linter.unusedVariables false
set_option linter.unusedSimpArgs false

def emptyB : ByteArray := { data := #[] }
def insE (s : RS) : RS × Ins :=
  let r1 := oneE s
  let s2 := needE (!(decide (nameN r1.2 = []))) r1.1
  if hasN r1.2 = 0 then (needE (mayN r1.2 0 0 emptyB) s2, ⟨r1.2, 0, 0, emptyB⟩)
  else if hasN r1.2 = 1 then (needE (mayN r1.2 (numE s2).2 0 emptyB) (numE s2).1, ⟨r1.2, (numE s2).2, 0, emptyB⟩)
  else if hasN r1.2 = 3 then (needE (mayN r1.2 (numE s2).2 (numE (numE s2).1).2 emptyB) (numE (numE s2).1).1, ⟨r1.2, (numE s2).2, (numE (numE s2).1).2, emptyB⟩)
  else
    let r3 := oneE s2
    let r5 := takeE r3.2.toNat (needE (decide (r3.2 ≤ 40)) r3.1)
    (needE (mayN r1.2 0 0 (strOfNums r5.2)) r5.1, ⟨r1.2, 0, 0, strOfNums r5.2⟩)

/-- Four cells of an instruction. -/
structure Cells4 (w : World) (p : Nat) (o a b : Int) (s : ByteArray) : Prop where
  c0 : w.cell? ⟨p, 0, none⟩ = some (.int .i64 o)
  c1 : w.cell? ⟨p, 1, none⟩ = some (.int .i64 a)
  c2 : w.cell? ⟨p, 2, none⟩ = some (.int .i64 b)
  c3 : w.cell? ⟨p, 3, none⟩ = some (.string s)
  f0 : w.frozen? ⟨p, 0, none⟩ = false
  f1 : w.frozen? ⟨p, 1, none⟩ = false
  f2 : w.frozen? ⟨p, 2, none⟩ = false
  f3 : w.frozen? ⟨p, 3, none⟩ = false
theorem Cells4.lt {w : World} {p : Nat} {o a b : Int} {s : ByteArray} (h : Cells4 w p o a b s) : p < w.heap.size := cell_ltk h.c0
theorem Cells4.keep {S : Nat → Prop} {w w' : World} {p : Nat} {o a b : Int} {s : ByteArray} (h : Cells4 w p o a b s) (hk : Keeps S w w') (hn : ¬ S p) : Cells4 w' p o a b s :=
  ⟨(hk.cell h.lt hn).trans h.c0, (hk.cell h.lt hn).trans h.c1, (hk.cell h.lt hn).trans h.c2, (hk.cell h.lt hn).trans h.c3, (hk.frozen h.lt hn).trans h.f0, (hk.frozen h.lt hn).trans h.f1, (hk.frozen h.lt hn).trans h.f2, (hk.frozen h.lt hn).trans h.f3⟩
theorem Cells4.set0 {w : World} {p : Nat} {o a b : Int} {s : ByteArray} (h : Cells4 w p o a b s) (x : Int) : Cells4 (w.setCell ⟨p, 0, none⟩ (.int .i64 x)) p x a b s :=
  ⟨cell_same _ _ _ _ _ h.c0, (cell_other _ _ _ _ (.inl (by omega))).trans h.c1, (cell_other _ _ _ _ (.inl (by omega))).trans h.c2, (cell_other _ _ _ _ (.inl (by omega))).trans h.c3, by rw [World.frozen?_setCell]; exact h.f0, by rw [World.frozen?_setCell]; exact h.f1, by rw [World.frozen?_setCell]; exact h.f2, by rw [World.frozen?_setCell]; exact h.f3⟩
theorem Cells4.set1 {w : World} {p : Nat} {o a b : Int} {s : ByteArray} (h : Cells4 w p o a b s) (x : Int) : Cells4 (w.setCell ⟨p, 1, none⟩ (.int .i64 x)) p o x b s :=
  ⟨(cell_other _ _ _ _ (.inl (by omega))).trans h.c0, cell_same _ _ _ _ _ h.c1, (cell_other _ _ _ _ (.inl (by omega))).trans h.c2, (cell_other _ _ _ _ (.inl (by omega))).trans h.c3, by rw [World.frozen?_setCell]; exact h.f0, by rw [World.frozen?_setCell]; exact h.f1, by rw [World.frozen?_setCell]; exact h.f2, by rw [World.frozen?_setCell]; exact h.f3⟩
theorem Cells4.set2 {w : World} {p : Nat} {o a b : Int} {s : ByteArray} (h : Cells4 w p o a b s) (x : Int) : Cells4 (w.setCell ⟨p, 2, none⟩ (.int .i64 x)) p o a x s :=
  ⟨(cell_other _ _ _ _ (.inl (by omega))).trans h.c0, (cell_other _ _ _ _ (.inl (by omega))).trans h.c1, cell_same _ _ _ _ _ h.c2, (cell_other _ _ _ _ (.inl (by omega))).trans h.c3, by rw [World.frozen?_setCell]; exact h.f0, by rw [World.frozen?_setCell]; exact h.f1, by rw [World.frozen?_setCell]; exact h.f2, by rw [World.frozen?_setCell]; exact h.f3⟩
theorem Cells4.set3 {w : World} {p : Nat} {o a b : Int} {s : ByteArray} (h : Cells4 w p o a b s) (x : ByteArray) : Cells4 (w.setCell ⟨p, 3, none⟩ (.string x)) p o a b x :=
  ⟨(cell_other _ _ _ _ (.inl (by omega))).trans h.c0, (cell_other _ _ _ _ (.inl (by omega))).trans h.c1, (cell_other _ _ _ _ (.inl (by omega))).trans h.c2, cell_same _ _ _ _ _ h.c3, by rw [World.frozen?_setCell]; exact h.f0, by rw [World.frozen?_setCell]; exact h.f1, by rw [World.frozen?_setCell]; exact h.f2, by rw [World.frozen?_setCell]; exact h.f3⟩
theorem Cells4.alloc (w : World) (o a b : Int) (s : ByteArray) : Cells4 (w.alloc (.cells #[.int .i64 o, .int .i64 a, .int .i64 b, .string s] 52)) w.heap.size o a b s := by
  obtain ⟨c0, c1, c2, c3⟩ := four_cells w ⟨o, a, b, s⟩
  exact ⟨c0, c1, c2, c3, by simp, by simp, by simp, by simp⟩
theorem Rdr.keepS {S : Nat → Prop} {w w' : World} {R : Nat} {s : RS} (h : Rdr w R s) (hk : Keeps S w w') (hS : ∀ p, p ≤ R → ¬ S p) : Rdr w' R s := by
  obtain ⟨A, c, h⟩ := h
  have hR := cell_ltk h.c0
  have hn := hS R (Nat.le_refl _)
  refine ⟨A, c, (hk.cell hR hn).trans h.c0, (hk.cell hR hn).trans h.c1, (hk.frozen hR hn).trans h.f0, (hk.frozen hR hn).trans h.f1, ?_, h.hc, h.hm, h.ok⟩
  intro h0
  obtain ⟨b, off, e, hb, hc⟩ := h.hb h0
  exact ⟨b, off, e, hb, fun k hk2 => (hk.cell (cell_ltk (hc 0 h0)) (hS b (by omega))).trans (hc k hk2)⟩
theorem Rdr.keep {w w' : World} {R : Nat} {s : RS} (h : Rdr w R s) (hk : Keeps (fun _ => False) w w') : Rdr w' R s := h.keepS hk (fun _ _ h => h)
theorem Rdr.set {w : World} {R : Nat} {s : RS} (h : Rdr w R s) {p i : Nat} (hp : R < p) (v : Value) : Rdr (w.setCell ⟨p, i, none⟩ v) R s :=
  h.keepS ((Keeps.refl (fun q => q = p) w).setCell (p := ⟨p, i, none⟩) (fun _ => rfl) v) (fun q hq e => by omega)
theorem ofL_empty (l : List UInt8) : (ofL l).toList.isEmpty = decide (l = []) := by
  rw [show (ofL l).toList = l from by simp [ofL]]
  cases l <;> simp
theorem conv_any (w : World) (R : Nat) (X : Option Addr) (c : Nat) (L : List Int) (h : RdB w R X L) : (convert 42 9 (.slice X L.length c)).run Tryd.prog w = .ok (.string (strOfNums L)) w := by
  rcases Nat.eq_zero_or_pos L.length with h0 | h0
  · obtain rfl : L = [] := List.eq_nil_of_length_eq_zero h0
    rcases X with _ | a
    · exact run_convert_bytes_nil w 42 5 Tryd.underlying42 Tryd.underlying5 0 c 9 Tryd.underlying9
    · have hl : (loadCells a 0).run Tryd.prog w = .ok ((([] : List Int).map (Value.int .u8)).toArray) w := run_loadCells_list (P := Tryd.prog) w a [] (fun j v hj => by simp at hj)
      rw [List.length_nil, run_convert_bytes_string w 42 9 5 _ 0 c Tryd.underlying42 Tryd.underlying5 Tryd.underlying9, run_bytesToString w a 0 c [] hl]
      rfl
  · obtain ⟨b, off, rfl, _, hc⟩ := h h0
    exact run_convert_bytes_arg w 42 5 Tryd.underlying42 Tryd.underlying5 b off L.length c L rfl hc 9 Tryd.underlying9
theorem codeW_at {w0 w wi : World} {R : Nat} (hw : CodeW w0) (k0 : Keeps (fun _ => False) w0 w) (k : Keeps (fun p => p = R) w wi) (hR : w0.heap.size ≤ R) : CodeW wi :=
  hw.keep ⟨k.os.trans k0.os, k.tape.trans k0.tape, k.output.trans k0.output, Nat.le_trans k0.size k.size, fun b hb _ => (k.block b (Nat.lt_of_lt_of_le hb k0.size) (by omega)).trans (k0.block b hb (fun h => h))⟩
theorem Rdr.lt {w : World} {R : Nat} {s : RS} (h : Rdr w R s) : R < w.heap.size := by
  obtain ⟨A, c, h⟩ := h
  exact cell_ltk h.c0
theorem Rdr.byte {w : World} {R : Nat} {s : RS} (h : Rdr w R s) : 0 ≤ (oneE s).2 ∧ (oneE s).2 < 256 := by
  obtain ⟨A, c, h⟩ := h
  have hl := takeE_len 1 s
  have hok := takeE_ok 1 s h.ok
  show 0 ≤ oneF (takeE 1 s).2 ∧ oneF (takeE 1 s).2 < 256
  revert hl hok
  generalize (takeE 1 s).2 = L
  intro hl hok
  match L, hl with
  | [], _ => decide
  | [x], _ => exact hok x (by simp)

set_option maxRecDepth 100000 in
set_option maxHeartbeats 8000000 in
theorem ins_any (w0 : World) (hw : CodeW w0) (R : Nat) (hR : w0.heap.size ≤ R) (s : RS) (w : World) (k0 : Keeps (fun _ => False) w0 w) (h : Rdr w R s) :
    Calls Tryd.prog 83 #[.pointer (some ⟨R, 0, none⟩)] w fun e w' => e = .returned (.agg #[.int .i64 (insE s).2.o, .int .i64 (insE s).2.a, .int .i64 (insE s).2.b, .string (insE s).2.s]) ∧ Rdr w' R (insE s).1 ∧ Keeps (fun p => p = R) w w' := by
  obtain ⟨B, hB⟩ : ∃ B, B = w.heap.size := ⟨_, rfl⟩
  have hRB : R < B := by rw [hB]; exact h.lt
  have H := Lib.hid h
  have HB := Lib.hid hB
  have W0 := Lib.hid hw
  have K0 := Lib.hid k0
  have hop := h.byte
  obtain ⟨op, hopd⟩ : ∃ op, op = (oneE s).2 := ⟨_, rfl⟩
  obtain ⟨s1, hs1⟩ : ∃ s1, s1 = (oneE s).1 := ⟨_, rfl⟩
  rw [← hopd] at hop
  have OC : Hid (∀ w, Rdr w R s → Calls Tryd.prog 80 #[.pointer (some ⟨R, 0, none⟩)] w fun e w' => e = .returned (.int .i64 op) ∧ Rdr w' R s1 ∧ Keeps (fun p => p = R) w w') := Lib.hid (by rw [hopd, hs1]; exact fun w h => one_any R s w h)
  obtain ⟨s2, hs2⟩ : ∃ s2, s2 = needE (!(decide (nameN op = []))) s1 := ⟨_, rfl⟩
  have HD : Hid (insE s = if hasN op = 0 then (needE (mayN op 0 0 emptyB) s2, ⟨op, 0, 0, emptyB⟩)
    else if hasN op = 1 then (needE (mayN op (numE s2).2 0 emptyB) (numE s2).1, ⟨op, (numE s2).2, 0, emptyB⟩)
    else if hasN op = 3 then (needE (mayN op (numE s2).2 (numE (numE s2).1).2 emptyB) (numE (numE s2).1).1, ⟨op, (numE s2).2, (numE (numE s2).1).2, emptyB⟩)
    else (needE (mayN op 0 0 (strOfNums (takeE (oneE s2).2.toNat (needE (decide ((oneE s2).2 ≤ 40)) (oneE s2).1)).2)) (takeE (oneE s2).2.toNat (needE (decide ((oneE s2).2 ≤ 40)) (oneE s2).1)).1, ⟨op, 0, 0, strOfNums (takeE (oneE s2).2.toNat (needE (decide ((oneE s2).2 ≤ 40)) (oneE s2).1)).2⟩)) := Lib.hid (by rw [hs2, hs1, hopd]; rfl)
  have HS2 := Lib.hid hs2
  clear hopd hs1 hs2
  clear h hB hw k0
  go_enter Tryd.func83, Tryd.ntmps83
  go_wp2_with fail
  have Z0 := Cells4.alloc w 0 0 0 emptyB
  have kz : Keeps (fun _ => False) w (w.alloc (.cells #[.int .i64 0, .int .i64 0, .int .i64 0, .string emptyB] 52)) := (Keeps.refl _ _).alloc _
  change Calls _ _ _ (w.alloc (.cells #[.int .i64 0, .int .i64 0, .int .i64 0, .string emptyB] 52)) _
  generalize w.alloc _ = wz at Z0 kz ⊢
  rw [← HB.out] at Z0 ⊢
  refine (OC.out wz (H.out.keep kz)).mono ?_
  rintro e w1 ⟨rfl, r1, k1⟩
  have Z1 := Z0.keep k1 (by omega)
  obtain ⟨PX, hPX⟩ : ∃ PX, PX = w1.heap.size := ⟨_, rfl⟩
  have hBP : B < PX := by rw [hPX]; exact Z1.lt
  have K1 : Hid (Keeps (fun p => p = R) w w1) := Lib.hid ((kz.mono (fun _ _ h => h.elim)).trans k1 (fun _ _ h => h))
  have HP := Lib.hid hPX
  have HZ1 := Lib.hid Z1
  have HR1 := Lib.hid r1
  clear Z0 kz k1 OC H Z1 r1 hPX
  go_upto_region 2 with fail
  have X0 := Cells4.alloc w1 op 0 0 emptyB
  have kx : Keeps (fun _ => False) w1 (w1.alloc (.cells #[.int .i64 op, .int .i64 0, .int .i64 0, .string emptyB] 52)) := (Keeps.refl _ _).alloc _
  change Code.wp _ _ _ _ (w1.alloc (.cells #[.int .i64 op, .int .i64 0, .int .i64 0, .string emptyB] 52))
  generalize w1.alloc _ = w2 at X0 kx ⊢
  rw [← HP.out] at X0 ⊢
  have Z2 := HZ1.out.keep kx (fun h => h)
  have R2 := HR1.out.keep kx
  have K2 : Hid (Keeps (fun p => p = R) w w2) := Lib.hid (K1.out.trans (kx.mono (fun _ _ h => h.elim)) (fun _ _ h => h))
  have CW2 := codeW_at W0.out K0.out K2.out hR
  have NO := Lib.hid (name_op op w2 CW2)
  have X2 := Lib.hid X0
  have HZ2 := Lib.hid Z2
  have HR2 := Lib.hid R2
  obtain ⟨c0, c1, c2, c3, f0, f1, f2, f3⟩ := X0
  clear kx HZ1 HR1 K1 CW2 Z2 R2
  go_wp2_with fail
  refine NO.out.mono ?_
  rintro e w3 ⟨rfl, k3⟩
  have X3 := Lib.hid (X2.out.keep k3 (fun h => h))
  have HZ3 := Lib.hid (HZ2.out.keep k3 (fun h => h))
  have R3 := HR2.out.keep k3
  have K3 := Lib.hid (K2.out.trans (k3.mono (fun _ _ h => h.elim)) (fun _ _ h => h))
  clear c0 c1 c2 c3 f0 f1 f2 f3 k3 NO X2 HZ2 HR2 K2
  obtain ⟨c0, c1, c2, c3, f0, f1, f2, f3⟩ := X3.out
  have ND := Lib.hid (need_any R (!(decide (nameN op = []))) s1 w3 R3)
  clear R3
  rw [← HS2.out] at ND
  go_wp2_with fail
  rw [ofL_empty]
  refine ND.out.mono ?_
  rintro e w4 ⟨rfl, r4, k4⟩
  have hXR : ¬ PX = R := by omega
  have hBR : ¬ B = R := by omega
  have X4 := Lib.hid (X3.out.keep k4 hXR)
  have HZ4 := Lib.hid (HZ3.out.keep k4 hBR)
  have HR4 := Lib.hid r4
  have K4 := Lib.hid (K3.out.trans k4 (fun _ _ h => h))
  clear c0 c1 c2 c3 f0 f1 f2 f3 k4 r4 ND X3 HZ3 K3
  obtain ⟨c0, c1, c2, c3, f0, f1, f2, f3⟩ := X4.out
  have HH := Lib.hid (has_any op (by omega) (by omega) w4)
  have hfour := has_four op
  obtain ⟨hv, hhv⟩ : ∃ hv, hv = hasN op := ⟨_, rfl⟩
  rw [← hhv] at HH hfour HD
  have HHV := Lib.hid hhv
  clear hhv
  go_wp2_with fail
  refine HH.out.mono ?_
  rintro e w5 ⟨rfl, k5⟩
  have X5 := Lib.hid (X4.out.keep k5 (fun h => h))
  have HZ5 := Lib.hid (HZ4.out.keep k5 (fun h => h))
  have HR5 := Lib.hid (HR4.out.keep k5)
  have K5 := Lib.hid (K4.out.trans (k5.mono (fun _ _ h => h.elim)) (fun _ _ h => h))
  clear c0 c1 c2 c3 f0 f1 f2 f3 k5 HH X4 HZ4 K4 HR4
  obtain ⟨c0, c1, c2, c3, f0, f1, f2, f3⟩ := X5.out
  rcases hfour with rfl | rfl | rfl | rfl
  · have MC := Lib.hid (may_any op (0) (0) (emptyB) (by omega) (by omega) w5 (codeW_at W0.out K0.out K5.out hR))
    go_wp2_with fail
    refine MC.out.mono ?_
    rintro e w6 ⟨rfl, k6⟩
    have X6 := Lib.hid (X5.out.keep k6 (fun h => h))
    have HZ6 := Lib.hid (HZ5.out.keep k6 (fun h => h))
    have HR6 := Lib.hid (HR5.out.keep k6)
    have K6 := Lib.hid (K5.out.trans (k6.mono (fun _ _ h => h.elim)) (fun _ _ h => h))
    clear c0 c1 c2 c3 f0 f1 f2 f3 k6 MC X5 HZ5 K5 HR5
    obtain ⟨c0, c1, c2, c3, f0, f1, f2, f3⟩ := X6.out
    have NE := Lib.hid (need_any R (mayN op (0) (0) (emptyB)) (s2) w6 HR6.out)
    go_wp2_with fail
    refine NE.out.mono ?_
    rintro e w7 ⟨rfl, r7, k7⟩
    have X7 := Lib.hid (X6.out.keep k7 hXR)
    have HZ7 := Lib.hid (HZ6.out.keep k7 hBR)
    have HR7 := Lib.hid r7
    have K7 := Lib.hid (K6.out.trans k7 (fun _ _ h => h))
    clear c0 c1 c2 c3 f0 f1 f2 f3 k7 r7 NE X6 HZ6 K6 HR6
    obtain ⟨c0, c1, c2, c3, f0, f1, f2, f3⟩ := X7.out
    obtain ⟨z0, z1, z2, z3, g0, g1, g2, g3⟩ := HZ7.out
    go_wp2
    (try simp only [Exit.inBlock, Exit.then])
    refine bodyPost_ret (v := .agg #[.int .i64 op, .int .i64 (0), .int .i64 (0), .string (emptyB)]) ?_ rfl ?_
    · rw [results_cell1 rfl]
      go_simp
    have E := HD.out
    simp only [reduceIte, show ¬ False from id] at E
    rw [E]
    have hp : ∀ i : Nat, (⟨B, i, none⟩ : Addr).block < w.heap.size → False := fun i h => by have h : B < w.heap.size := h; have := HB.out; omega
    exact ⟨rfl, (((HR7.out.set (i := 0) hRB _).set (i := 1) hRB _).set (i := 2) hRB _).set (i := 3) hRB _, (((K7.out.setCell (p := ⟨B, 0, none⟩) (fun h => (hp 0 h).elim) _).setCell (p := ⟨B, 1, none⟩) (fun h => (hp 1 h).elim) _).setCell (p := ⟨B, 2, none⟩) (fun h => (hp 2 h).elim) _).setCell (p := ⟨B, 3, none⟩) (fun h => (hp 3 h).elim) _⟩
  · have NA := Lib.hid (num_any R (s2) w5 HR5.out)
    obtain ⟨y1, hy1⟩ : ∃ y, y = (numE (s2)).2 := ⟨_, rfl⟩
    rw [← hy1] at NA
    have HY1 := Lib.hid hy1
    clear hy1
    go_wp2_with fail
    refine NA.out.mono ?_
    rintro e w6 ⟨rfl, r6, k6⟩
    have X6 := Lib.hid (X5.out.keep k6 hXR)
    have HZ6 := Lib.hid (HZ5.out.keep k6 hBR)
    have HR6 := Lib.hid r6
    have K6 := Lib.hid (K5.out.trans k6 (fun _ _ h => h))
    clear c0 c1 c2 c3 f0 f1 f2 f3 k6 r6 NA X5 HZ5 K5 HR5
    obtain ⟨c0, c1, c2, c3, f0, f1, f2, f3⟩ := X6.out
    go_upto_region 6 with fail
    have X7 := Lib.hid (X6.out.set1 y1)
    have HZ7 := Lib.hid (HZ6.out.keep ((Keeps.refl (fun q => q = PX) w6).setCell (p := ⟨PX, 1, none⟩) (fun _ => rfl) (.int .i64 y1)) (by omega))
    have HR7 := Lib.hid (HR6.out.set (p := PX) (i := 1) (by omega) (.int .i64 y1))
    have K7 := Lib.hid (K6.out.setCell (p := ⟨PX, 1, none⟩) (fun h => by have h : PX < w.heap.size := h; have := HB.out; omega) (.int .i64 y1))
    clear c0 c1 c2 c3 f0 f1 f2 f3 X6 HZ6 K6 HR6
    generalize hw7 : w6.setCell _ _ = w7
    rw [hw7] at X7 HZ7 HR7 K7
    clear hw7
    obtain ⟨c0, c1, c2, c3, f0, f1, f2, f3⟩ := X7.out
    have MC := Lib.hid (may_any op (y1) (0) (emptyB) (by omega) (by omega) w7 (codeW_at W0.out K0.out K7.out hR))
    go_wp2_with fail
    refine MC.out.mono ?_
    rintro e w8 ⟨rfl, k8⟩
    have X8 := Lib.hid (X7.out.keep k8 (fun h => h))
    have HZ8 := Lib.hid (HZ7.out.keep k8 (fun h => h))
    have HR8 := Lib.hid (HR7.out.keep k8)
    have K8 := Lib.hid (K7.out.trans (k8.mono (fun _ _ h => h.elim)) (fun _ _ h => h))
    clear c0 c1 c2 c3 f0 f1 f2 f3 k8 MC X7 HZ7 K7 HR7
    obtain ⟨c0, c1, c2, c3, f0, f1, f2, f3⟩ := X8.out
    have NE := Lib.hid (need_any R (mayN op (y1) (0) (emptyB)) ((numE s2).1) w8 HR8.out)
    go_wp2_with fail
    refine NE.out.mono ?_
    rintro e w9 ⟨rfl, r9, k9⟩
    have X9 := Lib.hid (X8.out.keep k9 hXR)
    have HZ9 := Lib.hid (HZ8.out.keep k9 hBR)
    have HR9 := Lib.hid r9
    have K9 := Lib.hid (K8.out.trans k9 (fun _ _ h => h))
    clear c0 c1 c2 c3 f0 f1 f2 f3 k9 r9 NE X8 HZ8 K8 HR8
    obtain ⟨c0, c1, c2, c3, f0, f1, f2, f3⟩ := X9.out
    obtain ⟨z0, z1, z2, z3, g0, g1, g2, g3⟩ := HZ9.out
    go_wp2
    (try simp only [Exit.inBlock, Exit.then])
    refine bodyPost_ret (v := .agg #[.int .i64 op, .int .i64 (y1), .int .i64 (0), .string (emptyB)]) ?_ rfl ?_
    · rw [results_cell1 rfl]
      go_simp
    have E := HD.out
    rw [← HY1.out] at E
    simp only [reduceIte, show ¬ (1 : Int) = 0 by decide] at E
    rw [E]
    have hp : ∀ i : Nat, (⟨B, i, none⟩ : Addr).block < w.heap.size → False := fun i h => by have h : B < w.heap.size := h; have := HB.out; omega
    exact ⟨rfl, (((HR9.out.set (i := 0) hRB _).set (i := 1) hRB _).set (i := 2) hRB _).set (i := 3) hRB _, (((K9.out.setCell (p := ⟨B, 0, none⟩) (fun h => (hp 0 h).elim) _).setCell (p := ⟨B, 1, none⟩) (fun h => (hp 1 h).elim) _).setCell (p := ⟨B, 2, none⟩) (fun h => (hp 2 h).elim) _).setCell (p := ⟨B, 3, none⟩) (fun h => (hp 3 h).elim) _⟩
  · have NA := Lib.hid (num_any R (s2) w5 HR5.out)
    obtain ⟨y1, hy1⟩ : ∃ y, y = (numE (s2)).2 := ⟨_, rfl⟩
    rw [← hy1] at NA
    have HY1 := Lib.hid hy1
    clear hy1
    go_wp2_with fail
    refine NA.out.mono ?_
    rintro e w6 ⟨rfl, r6, k6⟩
    have X6 := Lib.hid (X5.out.keep k6 hXR)
    have HZ6 := Lib.hid (HZ5.out.keep k6 hBR)
    have HR6 := Lib.hid r6
    have K6 := Lib.hid (K5.out.trans k6 (fun _ _ h => h))
    clear c0 c1 c2 c3 f0 f1 f2 f3 k6 r6 NA X5 HZ5 K5 HR5
    obtain ⟨c0, c1, c2, c3, f0, f1, f2, f3⟩ := X6.out
    go_upto_region 6 with fail
    have X7 := Lib.hid (X6.out.set1 y1)
    have HZ7 := Lib.hid (HZ6.out.keep ((Keeps.refl (fun q => q = PX) w6).setCell (p := ⟨PX, 1, none⟩) (fun _ => rfl) (.int .i64 y1)) (by omega))
    have HR7 := Lib.hid (HR6.out.set (p := PX) (i := 1) (by omega) (.int .i64 y1))
    have K7 := Lib.hid (K6.out.setCell (p := ⟨PX, 1, none⟩) (fun h => by have h : PX < w.heap.size := h; have := HB.out; omega) (.int .i64 y1))
    clear c0 c1 c2 c3 f0 f1 f2 f3 X6 HZ6 K6 HR6
    generalize hw7 : w6.setCell _ _ = w7
    rw [hw7] at X7 HZ7 HR7 K7
    clear hw7
    obtain ⟨c0, c1, c2, c3, f0, f1, f2, f3⟩ := X7.out
    have NA := Lib.hid (num_any R ((numE s2).1) w7 HR7.out)
    obtain ⟨y2, hy2⟩ : ∃ y, y = (numE ((numE s2).1)).2 := ⟨_, rfl⟩
    rw [← hy2] at NA
    have HY2 := Lib.hid hy2
    clear hy2
    go_wp2_with fail
    refine NA.out.mono ?_
    rintro e w8 ⟨rfl, r8, k8⟩
    have X8 := Lib.hid (X7.out.keep k8 hXR)
    have HZ8 := Lib.hid (HZ7.out.keep k8 hBR)
    have HR8 := Lib.hid r8
    have K8 := Lib.hid (K7.out.trans k8 (fun _ _ h => h))
    clear c0 c1 c2 c3 f0 f1 f2 f3 k8 r8 NA X7 HZ7 K7 HR7
    obtain ⟨c0, c1, c2, c3, f0, f1, f2, f3⟩ := X8.out
    go_upto_region 8 with fail
    have X9 := Lib.hid (X8.out.set2 y2)
    have HZ9 := Lib.hid (HZ8.out.keep ((Keeps.refl (fun q => q = PX) w8).setCell (p := ⟨PX, 2, none⟩) (fun _ => rfl) (.int .i64 y2)) (by omega))
    have HR9 := Lib.hid (HR8.out.set (p := PX) (i := 2) (by omega) (.int .i64 y2))
    have K9 := Lib.hid (K8.out.setCell (p := ⟨PX, 2, none⟩) (fun h => by have h : PX < w.heap.size := h; have := HB.out; omega) (.int .i64 y2))
    clear c0 c1 c2 c3 f0 f1 f2 f3 X8 HZ8 K8 HR8
    generalize hw9 : w8.setCell _ _ = w9
    rw [hw9] at X9 HZ9 HR9 K9
    clear hw9
    obtain ⟨c0, c1, c2, c3, f0, f1, f2, f3⟩ := X9.out
    have MC := Lib.hid (may_any op (y1) (y2) (emptyB) (by omega) (by omega) w9 (codeW_at W0.out K0.out K9.out hR))
    go_wp2_with fail
    refine MC.out.mono ?_
    rintro e w10 ⟨rfl, k10⟩
    have X10 := Lib.hid (X9.out.keep k10 (fun h => h))
    have HZ10 := Lib.hid (HZ9.out.keep k10 (fun h => h))
    have HR10 := Lib.hid (HR9.out.keep k10)
    have K10 := Lib.hid (K9.out.trans (k10.mono (fun _ _ h => h.elim)) (fun _ _ h => h))
    clear c0 c1 c2 c3 f0 f1 f2 f3 k10 MC X9 HZ9 K9 HR9
    obtain ⟨c0, c1, c2, c3, f0, f1, f2, f3⟩ := X10.out
    have NE := Lib.hid (need_any R (mayN op (y1) (y2) (emptyB)) ((numE (numE s2).1).1) w10 HR10.out)
    go_wp2_with fail
    refine NE.out.mono ?_
    rintro e w11 ⟨rfl, r11, k11⟩
    have X11 := Lib.hid (X10.out.keep k11 hXR)
    have HZ11 := Lib.hid (HZ10.out.keep k11 hBR)
    have HR11 := Lib.hid r11
    have K11 := Lib.hid (K10.out.trans k11 (fun _ _ h => h))
    clear c0 c1 c2 c3 f0 f1 f2 f3 k11 r11 NE X10 HZ10 K10 HR10
    obtain ⟨c0, c1, c2, c3, f0, f1, f2, f3⟩ := X11.out
    obtain ⟨z0, z1, z2, z3, g0, g1, g2, g3⟩ := HZ11.out
    go_wp2
    (try simp only [Exit.inBlock, Exit.then])
    refine bodyPost_ret (v := .agg #[.int .i64 op, .int .i64 (y1), .int .i64 (y2), .string (emptyB)]) ?_ rfl ?_
    · rw [results_cell1 rfl]
      go_simp
    have E := HD.out
    rw [← HY1.out, ← HY2.out] at E
    simp only [reduceIte, show ¬ (3 : Int) = 0 by decide, show ¬ (3 : Int) = 1 by decide] at E
    rw [E]
    have hp : ∀ i : Nat, (⟨B, i, none⟩ : Addr).block < w.heap.size → False := fun i h => by have h : B < w.heap.size := h; have := HB.out; omega
    exact ⟨rfl, (((HR11.out.set (i := 0) hRB _).set (i := 1) hRB _).set (i := 2) hRB _).set (i := 3) hRB _, (((K11.out.setCell (p := ⟨B, 0, none⟩) (fun h => (hp 0 h).elim) _).setCell (p := ⟨B, 1, none⟩) (fun h => (hp 1 h).elim) _).setCell (p := ⟨B, 2, none⟩) (fun h => (hp 2 h).elim) _).setCell (p := ⟨B, 3, none⟩) (fun h => (hp 3 h).elim) _⟩
  · have NA := Lib.hid (one_any R s2 w5 HR5.out)
    have hx := HR5.out.byte
    obtain ⟨x, hxd⟩ : ∃ x, x = (oneE s2).2 := ⟨_, rfl⟩
    rw [← hxd] at NA hx
    have HX := Lib.hid hxd
    clear hxd
    go_wp2_with fail
    refine NA.out.mono ?_
    rintro e w6 ⟨rfl, r6, k6⟩
    have X6 := Lib.hid (X5.out.keep k6 hXR)
    have HZ6 := Lib.hid (HZ5.out.keep k6 hBR)
    have HR6 := Lib.hid r6
    have K6 := Lib.hid (K5.out.trans k6 (fun _ _ h => h))
    clear c0 c1 c2 c3 f0 f1 f2 f3 k6 r6 NA X5 HZ5 K5 HR5
    obtain ⟨c0, c1, c2, c3, f0, f1, f2, f3⟩ := X6.out
    have NB := Lib.hid (need_any R (decide (x ≤ 40)) (oneE s2).1 w6 HR6.out)
    go_wp2_with fail
    refine NB.out.mono ?_
    rintro e w7 ⟨rfl, r7, k7⟩
    have X7 := Lib.hid (X6.out.keep k7 hXR)
    have HZ7 := Lib.hid (HZ6.out.keep k7 hBR)
    have HR7 := Lib.hid r7
    have K7 := Lib.hid (K6.out.trans k7 (fun _ _ h => h))
    clear c0 c1 c2 c3 f0 f1 f2 f3 k7 r7 NB X6 HZ6 K6 HR6
    obtain ⟨c0, c1, c2, c3, f0, f1, f2, f3⟩ := X7.out
    have hxn : ((x.toNat : Nat) : Int) = x := by omega
    have NC := bytes_any R x.toNat (needE (decide (x ≤ 40)) (oneE s2).1) (by omega) w7 HR7.out
    rw [hxn] at NC
    obtain ⟨L5, hL5⟩ : ∃ L, L = (takeE x.toNat (needE (decide (x ≤ 40)) (oneE s2).1)).2 := ⟨_, rfl⟩
    obtain ⟨s5, hs5⟩ : ∃ s, s = (takeE x.toNat (needE (decide (x ≤ 40)) (oneE s2).1)).1 := ⟨_, rfl⟩
    rw [← hL5, ← hs5] at NC
    have HL5 := Lib.hid hL5
    have HS5 := Lib.hid hs5
    clear hL5 hs5
    have NC := Lib.hid NC
    go_wp2_with fail
    refine NC.out.mono ?_
    rintro e w8 ⟨⟨v, rfl, A5, c5, rfl, hx5⟩, r8, k8⟩
    have X8 := Lib.hid (X7.out.keep k8 hXR)
    have HZ8 := Lib.hid (HZ7.out.keep k8 hBR)
    have HR8 := Lib.hid r8
    have K8 := Lib.hid (K7.out.trans k8 (fun _ _ h => h))
    clear c0 c1 c2 c3 f0 f1 f2 f3 k8 r8 NC X7 HZ7 K7 HR7
    obtain ⟨c0, c1, c2, c3, f0, f1, f2, f3⟩ := X8.out
    have hcv : (convert 42 9 (.slice A5 L5.length c5)).run Tryd.prog w8 = .ok (.string (strOfNums L5)) w8 := conv_any w8 R A5 c5 L5 hx5
    obtain ⟨n5, hn5⟩ : ∃ n, n = L5.length := ⟨_, rfl⟩
    rw [← hn5] at hcv ⊢
    clear hx5 hn5
    go_upto_region 12 with fail
    have X9 := Lib.hid (X8.out.set3 (strOfNums L5))
    have HZ9 := Lib.hid (HZ8.out.keep ((Keeps.refl (fun q => q = PX) w8).setCell (p := ⟨PX, 3, none⟩) (fun _ => rfl) (.string (strOfNums L5))) (by omega))
    have HR9 := Lib.hid (HR8.out.set (p := PX) (i := 3) (by omega) (.string (strOfNums L5)))
    have K9 := Lib.hid (K8.out.setCell (p := ⟨PX, 3, none⟩) (fun h => by have h : PX < w.heap.size := h; have := HB.out; omega) (.string (strOfNums L5)))
    clear c0 c1 c2 c3 f0 f1 f2 f3 X8 HZ8 K8 HR8
    generalize hw9 : w8.setCell _ _ = w9
    rw [hw9] at X9 HZ9 HR9 K9
    clear hw9
    obtain ⟨c0, c1, c2, c3, f0, f1, f2, f3⟩ := X9.out
    have MC := Lib.hid (may_any op (0) (0) (strOfNums L5) (by omega) (by omega) w9 (codeW_at W0.out K0.out K9.out hR))
    go_wp2_with fail
    refine MC.out.mono ?_
    rintro e w10 ⟨rfl, k10⟩
    have X10 := Lib.hid (X9.out.keep k10 (fun h => h))
    have HZ10 := Lib.hid (HZ9.out.keep k10 (fun h => h))
    have HR10 := Lib.hid (HR9.out.keep k10)
    have K10 := Lib.hid (K9.out.trans (k10.mono (fun _ _ h => h.elim)) (fun _ _ h => h))
    clear c0 c1 c2 c3 f0 f1 f2 f3 k10 MC X9 HZ9 K9 HR9
    obtain ⟨c0, c1, c2, c3, f0, f1, f2, f3⟩ := X10.out
    have NE := Lib.hid (need_any R (mayN op (0) (0) (strOfNums L5)) (s5) w10 HR10.out)
    go_wp2_with fail
    refine NE.out.mono ?_
    rintro e w11 ⟨rfl, r11, k11⟩
    have X11 := Lib.hid (X10.out.keep k11 hXR)
    have HZ11 := Lib.hid (HZ10.out.keep k11 hBR)
    have HR11 := Lib.hid r11
    have K11 := Lib.hid (K10.out.trans k11 (fun _ _ h => h))
    clear c0 c1 c2 c3 f0 f1 f2 f3 k11 r11 NE X10 HZ10 K10 HR10
    obtain ⟨c0, c1, c2, c3, f0, f1, f2, f3⟩ := X11.out
    obtain ⟨z0, z1, z2, z3, g0, g1, g2, g3⟩ := HZ11.out
    go_wp2
    (try simp only [Exit.inBlock, Exit.then])
    refine bodyPost_ret (v := .agg #[.int .i64 op, .int .i64 (0), .int .i64 (0), .string (strOfNums L5)]) ?_ rfl ?_
    · rw [results_cell1 rfl]
      go_simp
    have E := HD.out
    rw [← HX.out, ← HL5.out, ← HS5.out] at E
    simp only [reduceIte, show ¬ (4 : Int) = 0 by decide, show ¬ (4 : Int) = 1 by decide, show ¬ (4 : Int) = 3 by decide] at E
    rw [E]
    have hp : ∀ i : Nat, (⟨B, i, none⟩ : Addr).block < w.heap.size → False := fun i h => by have h : B < w.heap.size := h; have := HB.out; omega
    exact ⟨rfl, (((HR11.out.set (i := 0) hRB _).set (i := 1) hRB _).set (i := 2) hRB _).set (i := 3) hRB _, (((K11.out.setCell (p := ⟨B, 0, none⟩) (fun h => (hp 0 h).elim) _).setCell (p := ⟨B, 1, none⟩) (fun h => (hp 1 h).elim) _).setCell (p := ⟨B, 2, none⟩) (fun h => (hp 2 h).elim) _).setCell (p := ⟨B, 3, none⟩) (fun h => (hp 3 h).elim) _⟩

end Go.Proofs.YtoombjbpblighaaDoor
