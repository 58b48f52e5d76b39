/-
  Layer 16: the walk of EditsMay. Written by an AI agent.
-/
import Derived.Test.YtpighdioomjnmabEdD
import Derived.Test.YtpighdioomjnmabEdE
import Derived.Test.YtpighdioomjnmabEdF
namespace Go.Proofs.Ytpighdioomjnmab
open Go.RowKit Go.Shelf
set_option linter.unusedVariables false
set_option linter.unusedSimpArgs false

/-- Five cells set. -/
theorem set5 (w W : World) (P : Nat) (v0 v1 v2 v3 v4 x0 x1 x2 x3 x4 : Value) (a0 : w.cell? ⟨P, 0, none⟩ = some x0) (a1 : w.cell? ⟨P, 1, none⟩ = some x1) (a2 : w.cell? ⟨P, 2, none⟩ = some x2) (a3 : w.cell? ⟨P, 3, none⟩ = some x3) (a4 : w.cell? ⟨P, 4, none⟩ = some x4)
    (hW : W = ((((w.setCell ⟨P, 0, none⟩ v0).setCell ⟨P, 1, none⟩ v1).setCell ⟨P, 2, none⟩ v2).setCell ⟨P, 3, none⟩ v3).setCell ⟨P, 4, none⟩ v4) :
    W.cell? ⟨P, 0, none⟩ = some v0 ∧ W.cell? ⟨P, 1, none⟩ = some v1 ∧ W.cell? ⟨P, 2, none⟩ = some v2 ∧ W.cell? ⟨P, 3, none⟩ = some v3 ∧ W.cell? ⟨P, 4, none⟩ = some v4 ∧ Keeps (fun k => k = P) w W := by
  have o : ∀ (u : World) (i j : Nat) (v x : Value), i ≠ j → u.cell? ⟨P, j, none⟩ = some x → (u.setCell ⟨P, i, none⟩ v).cell? ⟨P, j, none⟩ = some x := fun u i j v x hne h => (World.cell?_setCell_other u _ _ _ (by simp only [ne_eq, Addr.mk.injEq, true_and, and_true]; omega)).trans h
  have m : ∀ (u : World) (i : Nat) (v x : Value), u.cell? ⟨P, i, none⟩ = some x → (u.setCell ⟨P, i, none⟩ v).cell? ⟨P, i, none⟩ = some v := fun u i v x h => World.cell?_setCell_same' u _ _ (by rw [h]; rfl)
  subst hW
  refine ⟨?_, ?_, ?_, ?_, ?_, ?_⟩
  · exact o _ 4 0 _ _ (by omega) (o _ 3 0 _ _ (by omega) (o _ 2 0 _ _ (by omega) (o _ 1 0 _ _ (by omega) (m _ 0 _ _ a0))))
  · exact o _ 4 1 _ _ (by omega) (o _ 3 1 _ _ (by omega) (o _ 2 1 _ _ (by omega) (m _ 1 _ _ (o _ 0 1 _ _ (by omega) a1))))
  · exact o _ 4 2 _ _ (by omega) (o _ 3 2 _ _ (by omega) (m _ 2 _ _ (o _ 1 2 _ _ (by omega) (o _ 0 2 _ _ (by omega) a2))))
  · exact o _ 4 3 _ _ (by omega) (m _ 3 _ _ (o _ 2 3 _ _ (by omega) (o _ 1 3 _ _ (by omega) (o _ 0 3 _ _ (by omega) a3))))
  · exact m _ 4 _ _ (o _ 3 4 _ _ (by omega) (o _ 2 4 _ _ (by omega) (o _ 1 4 _ _ (by omega) (o _ 0 4 _ _ (by omega) a4))))
  · exact (((((Keeps.refl (fun k => k = P) w).setCell (fun _ => rfl) _).setCell (fun _ => rfl) _).setCell (fun _ => rfl) _).setCell (fun _ => rfl) _).setCell (fun _ => rfl) _

/-- An edit that lies alone in memory. -/
structure Box (w : World) (p : Nat) (t : Int) (nm : ByteArray) (ty n : Int) (s : ByteArray) : Prop where
  c0 : w.cell? ⟨p, 0, none⟩ = some (.int .i64 t)
  c1 : w.cell? ⟨p, 1, none⟩ = some (.string nm)
  c2 : w.cell? ⟨p, 2, none⟩ = some (.int .i64 ty)
  c3 : w.cell? ⟨p, 3, none⟩ = some (.int .i64 n)
  c4 : w.cell? ⟨p, 4, none⟩ = some (.string s)
  fz : ∀ k, w.frozen? ⟨p, k, none⟩ = false

section
variable {w w' : World} {p q : Nat} {t ty n : Int} {nm s : ByteArray}
theorem Box.lt (h : Box w p t nm ty n s) : p < w.heap.size := cell_ltk h.c0
theorem Box.keep (h : Box w p t nm ty n s) (hk : Keeps (fun _ => False) w w') : Box w' p t nm ty n s :=
  ⟨(hk.cell h.lt (fun h => h)).trans h.c0, (hk.cell h.lt (fun h => h)).trans h.c1, (hk.cell h.lt (fun h => h)).trans h.c2, (hk.cell h.lt (fun h => h)).trans h.c3, (hk.cell h.lt (fun h => h)).trans h.c4, fun k => (hk.frozen h.lt (fun h => h)).trans (h.fz k)⟩
theorem Box.alloc (h : Box w p t nm ty n s) (o : Obj) : Box (w.alloc o) p t nm ty n s := h.keep ((Keeps.refl _ _).alloc _)
theorem Box.new (w : World) (t : Int) (nm : ByteArray) (ty n : Int) (s : ByteArray) : Box (w.alloc (.cells #[.int .i64 t, .string nm, .int .i64 ty, .int .i64 n, .string s] 49)) w.heap.size t nm ty n s :=
  ⟨by simp, by simp, by simp, by simp, by simp, fun k => World.frozen?_alloc_new _ _ _ _⟩
theorem cell_other (w : World) {p q : Nat} (i j : Nat) (v : Value) (h : i ≠ j ∨ p ≠ q) : (w.setCell ⟨p, i, none⟩ v).cell? ⟨q, j, none⟩ = w.cell? ⟨q, j, none⟩ := World.cell?_setCell_other w _ _ _ (by simp only [ne_eq, Addr.mk.injEq, and_true]; omega)
theorem cell_same (w : World) (p i : Nat) (v x : Value) (h : w.cell? ⟨p, i, none⟩ = some x) : (w.setCell ⟨p, i, none⟩ v).cell? ⟨p, i, none⟩ = some v := World.cell?_setCell_same' w _ _ (by rw [h]; rfl)
theorem Box.other (h : Box w p t nm ty n s) (hne : q ≠ p) (i : Nat) (v : Value) : Box (w.setCell ⟨q, i, none⟩ v) p t nm ty n s :=
  ⟨(cell_other w _ _ _ (.inr hne)).trans h.c0, (cell_other w _ _ _ (.inr hne)).trans h.c1, (cell_other w _ _ _ (.inr hne)).trans h.c2, (cell_other w _ _ _ (.inr hne)).trans h.c3, (cell_other w _ _ _ (.inr hne)).trans h.c4, fun k => by rw [World.frozen?_setCell]; exact h.fz k⟩
theorem Box.set0 (h : Box w p t nm ty n s) (x : Int) : Box (w.setCell ⟨p, 0, none⟩ (.int .i64 x)) p x nm ty n s :=
  ⟨cell_same w _ _ _ _ h.c0, (cell_other w _ _ _ (.inl (by omega))).trans h.c1, (cell_other w _ _ _ (.inl (by omega))).trans h.c2, (cell_other w _ _ _ (.inl (by omega))).trans h.c3, (cell_other w _ _ _ (.inl (by omega))).trans h.c4, fun k => by rw [World.frozen?_setCell]; exact h.fz k⟩
theorem Box.set1 (h : Box w p t nm ty n s) (x : ByteArray) : Box (w.setCell ⟨p, 1, none⟩ (.string x)) p t x ty n s :=
  ⟨(cell_other w _ _ _ (.inl (by omega))).trans h.c0, cell_same w _ _ _ _ h.c1, (cell_other w _ _ _ (.inl (by omega))).trans h.c2, (cell_other w _ _ _ (.inl (by omega))).trans h.c3, (cell_other w _ _ _ (.inl (by omega))).trans h.c4, fun k => by rw [World.frozen?_setCell]; exact h.fz k⟩
theorem Box.set2 (h : Box w p t nm ty n s) (x : Int) : Box (w.setCell ⟨p, 2, none⟩ (.int .i64 x)) p t nm x n s :=
  ⟨(cell_other w _ _ _ (.inl (by omega))).trans h.c0, (cell_other w _ _ _ (.inl (by omega))).trans h.c1, cell_same w _ _ _ _ h.c2, (cell_other w _ _ _ (.inl (by omega))).trans h.c3, (cell_other w _ _ _ (.inl (by omega))).trans h.c4, fun k => by rw [World.frozen?_setCell]; exact h.fz k⟩
end

theorem flatE_single (x : Ed) : flatE [x] = x.cells := by simp [flatE]

set_option maxRecDepth 100000 in
set_option maxHeartbeats 4000000 in
theorem may_walk (t : Int) (nm : ByteArray) (ty n : Int) (s : ByteArray) (w : World) :
    Calls Try.prog 9 #[.agg #[.int .i64 t, .string nm, .int .i64 ty, .int .i64 n, .string s]] w fun e w' => e = .returned (.bool true) ∧ Below w.heap.size w w' := by
  obtain ⟨P, hP⟩ : ∃ P : Nat, P = w.heap.size := ⟨_, rfl⟩
  obtain ⟨w0, hw0⟩ : ∃ w0 : World, w0 = w.alloc (.cells #[.int .i64 t, .string nm, .int .i64 ty, .int .i64 n, .string s] 49) := ⟨_, rfl⟩
  have kw0 : Keeps (fun _ => False) w w0 := by rw [hw0]; exact (Keeps.refl _ _).alloc _
  have sw0 : w0.heap.size = P + 1 := by rw [hw0, hP]; simp
  have a0 : w0.cell? ⟨P, 0, none⟩ = some (.int .i64 t) := by rw [hw0, hP]; simp
  have a1 : w0.cell? ⟨P, 1, none⟩ = some (.string nm) := by rw [hw0, hP]; simp
  have a2 : w0.cell? ⟨P, 2, none⟩ = some (.int .i64 ty) := by rw [hw0, hP]; simp
  have a3 : w0.cell? ⟨P, 3, none⟩ = some (.int .i64 n) := by rw [hw0, hP]; simp
  have a4 : w0.cell? ⟨P, 4, none⟩ = some (.string s) := by rw [hw0, hP]; simp
  have af : ∀ k, w0.frozen? ⟨P, k, none⟩ = false := fun k => by rw [hw0, hP]; simp
  have SC := Lib.hid (shown16 w0)
  have KW := Lib.hid kw0
  have HPh := Lib.hid hP
  clear kw0
  go_enter Try.func9, Try.ntmps9
  go_wp2_with fail
  rw [← hw0]
  refine SC.out.mono ?_
  rintro e w1 ⟨rfl, k1⟩
  have hPl : P < w0.heap.size := by omega
  replace a0 := (k1.cell hPl (fun h => h)).trans a0
  replace a1 := (k1.cell hPl (fun h => h)).trans a1
  replace a2 := (k1.cell hPl (fun h => h)).trans a2
  replace a3 := (k1.cell hPl (fun h => h)).trans a3
  replace a4 := (k1.cell hPl (fun h => h)).trans a4
  replace af := fun k => (k1.frozen (o := k) hPl (fun h => h)).trans (af k)
  have s1 := k1.size
  have K1 := Lib.hid (KW.out.trans k1 (fun _ _ h => h))
  have hrd : RdE (w1.alloc (.cells #[.int .i64 t, .string nm, .int .i64 ty, .int .i64 n, .string s] 49)) (some ⟨w1.heap.size, 0, none⟩) [⟨t, nm, ty, n, s⟩] := fun _ => ⟨w1.heap.size, 0, rfl, fun k hk => by
    obtain rfl : k = 0 := by simpa using hk
    exact ⟨by simp, by simp, by simp, by simp, by simp⟩⟩
  have FC := Lib.hid (few_any _ _ 1 _ hrd (by simp))
  clear k1 hrd SC hw0
  rw [hP] at a0 a1 a2 a3 a4 af
  go_wp2_with fail
  refine FC.out.mono ?_
  rintro e w2 ⟨A2, c2, rfl, o2, b2, k2⟩
  have hx : fewE [(⟨t, nm, ty, n, s⟩ : Ed)] = [⟨t, cutN nm 20, ty, n, cutN s 60⟩] := rfl
  rw [hx] at o2 ⊢
  have hPl1 : w.heap.size < (w1.alloc (.cells #[.int .i64 t, .string nm, .int .i64 ty, .int .i64 n, .string s] 49)).heap.size := by simp; omega
  have k2' := ((Keeps.refl (fun _ => False) w1).alloc (.cells #[.int .i64 t, .string nm, .int .i64 ty, .int .i64 n, .string s] 49)).trans k2 (fun _ _ h => h)
  have hPl2 : w.heap.size < w1.heap.size := by omega
  replace a0 := (k2'.cell hPl2 (fun h => h)).trans a0
  replace a1 := (k2'.cell hPl2 (fun h => h)).trans a1
  replace a2 := (k2'.cell hPl2 (fun h => h)).trans a2
  replace a3 := (k2'.cell hPl2 (fun h => h)).trans a3
  replace a4 := (k2'.cell hPl2 (fun h => h)).trans a4
  replace af := fun k => (k2'.frozen (o := k) hPl2 (fun h => h)).trans (af k)
  obtain ⟨b, off, rfl, hc⟩ := own_rdE o2 rfl (by simp)
  have e0 : w2.cell? ⟨b, off, none⟩ = some (.int .i64 t) := (hc 0 (by simp)).1
  have e1 : w2.cell? ⟨b, off + 1, none⟩ = some (.string (cutN nm 20)) := (hc 0 (by simp)).2.1
  have e2 : w2.cell? ⟨b, off + 2, none⟩ = some (.int .i64 ty) := (hc 0 (by simp)).2.2.1
  have e3 : w2.cell? ⟨b, off + 3, none⟩ = some (.int .i64 n) := (hc 0 (by simp)).2.2.2.1
  have e4 : w2.cell? ⟨b, off + 4, none⟩ = some (.string (cutN s 60)) := (hc 0 (by simp)).2.2.2.2
  have s2 := k2'.size
  have K2 := Lib.hid (K1.out.trans k2' (fun _ _ h => h))
  obtain ⟨m, hm⟩ : ∃ m : ByteArray, m = cutN nm 20 := ⟨_, rfl⟩
  obtain ⟨z, hz⟩ : ∃ z : ByteArray, z = cutN s 60 := ⟨_, rfl⟩
  rw [← hm] at e1
  rw [← hz] at e4
  have hlen : ([{ t := t, nm := cutN nm 20, ty := ty, n := n, s := cutN s 60 }] : List Ed).length = 1 := rfl
  rw [hlen]
  clear hm hz hc o2 b2 k2 k2' FC hPl1 hx hlen
  go_upto_region 3 with fail
  obtain ⟨w3, hw3⟩ : ∃ w3 : World, w3 = ((((w2.setCell ⟨w.heap.size, 0, none⟩ (.int .i64 t)).setCell ⟨w.heap.size, 1, none⟩ (.string m)).setCell ⟨w.heap.size, 2, none⟩ (.int .i64 ty)).setCell ⟨w.heap.size, 3, none⟩ (.int .i64 n)).setCell ⟨w.heap.size, 4, none⟩ (.string z) := ⟨_, rfl⟩
  obtain ⟨q0, q1, q2, q3, q4, k3⟩ := set5 w2 w3 _ _ _ _ _ _ _ _ _ _ _ a0 a1 a2 a3 a4 hw3
  have qf : ∀ k, w3.frozen? ⟨w.heap.size, k, none⟩ = false := fun k => by rw [hw3]; simp only [World.frozen?_setCell]; exact af k
  have hB3 : Below w.heap.size w w3 := (K2.out.toBelow (Nat.le_refl _) (fun _ h => h.elim)).trans (k3.toBelow (by omega) (fun k hk => by have : k = w.heap.size := hk; omega))
  have s3 := k3.size
  rw [← hw3]
  have HB3 := Lib.hid hB3
  clear a0 a1 a2 a3 a4 af e0 e1 e2 e3 e4 k3 hB3 hw3
  obtain ⟨bv, hOk, hM⟩ := emay_all t m ty n z
  have MC := Lib.hid (hM w3)
  cases bv with
  | false =>
    clear hOk hM
    go_wp2_with fail
    refine MC.out.mono ?_
    rintro e w4 ⟨rfl, k4⟩
    have HB4 := Lib.hid (HB3.out.trans (k4.toBelow HB3.out.size (fun _ h => h.elim)))
    clear k4
    go_wp2
    go_ret
    exact ⟨rfl, HB4.out⟩
  | true =>
    have hO := hOk.1 rfl
    have HO := Lib.hid hO
    clear hOk hM hO
    go_wp2_with fail
    refine MC.out.mono ?_
    rintro e w4 ⟨rfl, k4⟩
    have hP3 : w.heap.size < w3.heap.size := by omega
    replace q0 := (k4.cell hP3 (fun h => h)).trans q0
    replace q1 := (k4.cell hP3 (fun h => h)).trans q1
    replace q2 := (k4.cell hP3 (fun h => h)).trans q2
    replace q3 := (k4.cell hP3 (fun h => h)).trans q3
    replace q4 := (k4.cell hP3 (fun h => h)).trans q4
    replace qf := fun k => (k4.frozen (o := k) hP3 (fun h => h)).trans (qf k)
    have s4 := k4.size
    have HB4 := Lib.hid (HB3.out.trans (k4.toBelow HB3.out.size (fun _ h => h.elim)))
    have hBP : Box w4 w.heap.size t m ty n z := ⟨q0, q1, q2, q3, q4, qf⟩
    have BP := Lib.hid hBP
    clear k4 q0 q1 q2 q3 q4 qf hBP
    have q0 := BP.out.c0
    have q1 := BP.out.c1
    have q2 := BP.out.c2
    have q3 := BP.out.c3
    have q4 := BP.out.c4
    go_upto_region 6 with fail
    obtain ⟨wa, hwa⟩ : ∃ wa : World, wa = w4.alloc (.cells #[.int .i64 t, .string m, .int .i64 ty, .int .i64 n, .string z] 49) := ⟨_, rfl⟩
    rw [← hwa]
    have BP := Lib.hid (BP.out.alloc (.cells #[.int .i64 t, .string m, .int .i64 ty, .int .i64 n, .string z] 49))
    have B4 := Lib.hid (Box.new w4 t m ty n z)
    have HB4x := Lib.hid (HB4.out.alloc HB4.out.size (.cells #[.int .i64 t, .string m, .int .i64 ty, .int .i64 n, .string z] 49))
    have zwa : Hid (wa.heap.size = w4.heap.size + 1) := by rw [hwa]; show _ = _; simp
    rw [← hwa] at BP B4 HB4x
    clear q0 q1 q2 q3 q4
    clear hwa
    have q0 := BP.out.c0
    have q1 := BP.out.c1
    have q2 := BP.out.c2
    have q3 := BP.out.c3
    have q4 := BP.out.c4
    go_upto_region 7 with fail
    obtain ⟨wb, hwb⟩ : ∃ wb : World, wb = wa.alloc (.cells #[.int .i64 t, .string m, .int .i64 ty, .int .i64 n, .string z] 49) := ⟨_, rfl⟩
    rw [← hwb]
    have BP := Lib.hid (BP.out.alloc (.cells #[.int .i64 t, .string m, .int .i64 ty, .int .i64 n, .string z] 49))
    have B4 := Lib.hid (B4.out.alloc (.cells #[.int .i64 t, .string m, .int .i64 ty, .int .i64 n, .string z] 49))
    have B5 := Lib.hid (Box.new wa t m ty n z)
    have HB4xx := Lib.hid (HB4x.out.alloc HB4x.out.size (.cells #[.int .i64 t, .string m, .int .i64 ty, .int .i64 n, .string z] 49))
    have zwb : Hid (wb.heap.size = wa.heap.size + 1) := by rw [hwb]; show _ = _; simp
    rw [← hwb] at BP B4 B5 HB4xx
    clear q0 q1 q2 q3 q4
    clear hwb
    have q0 := BP.out.c0
    have q1 := BP.out.c1
    have q2 := BP.out.c2
    have q3 := BP.out.c3
    have q4 := BP.out.c4
    go_upto_region 8 with fail
    obtain ⟨wc, hwc⟩ : ∃ wc : World, wc = wb.alloc (.cells #[.int .i64 t, .string m, .int .i64 ty, .int .i64 n, .string z] 49) := ⟨_, rfl⟩
    rw [← hwc]
    have BP := Lib.hid (BP.out.alloc (.cells #[.int .i64 t, .string m, .int .i64 ty, .int .i64 n, .string z] 49))
    have B4 := Lib.hid (B4.out.alloc (.cells #[.int .i64 t, .string m, .int .i64 ty, .int .i64 n, .string z] 49))
    have B5 := Lib.hid (B5.out.alloc (.cells #[.int .i64 t, .string m, .int .i64 ty, .int .i64 n, .string z] 49))
    have B6 := Lib.hid (Box.new wb t m ty n z)
    have HB4xxx := Lib.hid (HB4xx.out.alloc HB4xx.out.size (.cells #[.int .i64 t, .string m, .int .i64 ty, .int .i64 n, .string z] 49))
    have zwc : Hid (wc.heap.size = wb.heap.size + 1) := by rw [hwc]; show _ = _; simp
    rw [← hwc] at BP B4 B5 B6 HB4xxx
    clear q0 q1 q2 q3 q4
    clear hwc
    have q0 := BP.out.c0
    have q1 := BP.out.c1
    have q2 := BP.out.c2
    have q3 := BP.out.c3
    have q4 := BP.out.c4
    go_upto_region 9 with fail
    obtain ⟨wd, hwd⟩ : ∃ wd : World, wd = wc.alloc (.cells #[.int .i64 t, .string m, .int .i64 ty, .int .i64 n, .string z] 49) := ⟨_, rfl⟩
    rw [← hwd]
    have BP := Lib.hid (BP.out.alloc (.cells #[.int .i64 t, .string m, .int .i64 ty, .int .i64 n, .string z] 49))
    have B4 := Lib.hid (B4.out.alloc (.cells #[.int .i64 t, .string m, .int .i64 ty, .int .i64 n, .string z] 49))
    have B5 := Lib.hid (B5.out.alloc (.cells #[.int .i64 t, .string m, .int .i64 ty, .int .i64 n, .string z] 49))
    have B6 := Lib.hid (B6.out.alloc (.cells #[.int .i64 t, .string m, .int .i64 ty, .int .i64 n, .string z] 49))
    have B7 := Lib.hid (Box.new wc t m ty n z)
    have HB4xxxx := Lib.hid (HB4xxx.out.alloc HB4xxx.out.size (.cells #[.int .i64 t, .string m, .int .i64 ty, .int .i64 n, .string z] 49))
    have zwd : Hid (wd.heap.size = wc.heap.size + 1) := by rw [hwd]; show _ = _; simp
    rw [← hwd] at BP B4 B5 B6 B7 HB4xxxx
    clear q0 q1 q2 q3 q4
    clear hwd
    have q0 := B4.out.c0
    have qf := B4.out.fz 0
    go_upto_region 10 with fail
    obtain ⟨we, hwe⟩ : ∃ we : World, we = wd.setCell ⟨w4.heap.size, 0, none⟩ (.int .i64 (201)) := ⟨_, rfl⟩
    rw [← hwe]
    have BP := Lib.hid (BP.out.other (q := w4.heap.size) (by have := zwa.out; have := zwb.out; have := zwc.out; have := zwd.out; omega) 0 (.int .i64 (201)))
    have B5 := Lib.hid (B5.out.other (q := w4.heap.size) (by have := zwa.out; have := zwb.out; have := zwc.out; have := zwd.out; omega) 0 (.int .i64 (201)))
    have B6 := Lib.hid (B6.out.other (q := w4.heap.size) (by have := zwa.out; have := zwb.out; have := zwc.out; have := zwd.out; omega) 0 (.int .i64 (201)))
    have B7 := Lib.hid (B7.out.other (q := w4.heap.size) (by have := zwa.out; have := zwb.out; have := zwc.out; have := zwd.out; omega) 0 (.int .i64 (201)))
    have B4 := Lib.hid (B4.out.set0 (201))
    have HB4xxxxx := Lib.hid (HB4xxxx.out.setCell (p := ⟨w4.heap.size, 0, none⟩) (by show w.heap.size ≤ w4.heap.size; have := zwa.out; have := zwb.out; have := zwc.out; have := zwd.out; omega) (.int .i64 (201)))
    have zwe : Hid (we.heap.size = wd.heap.size) := by rw [hwe]; show _ = _; simp
    rw [← hwe] at BP B4 B5 B6 B7 HB4xxxxx
    clear q0 qf hwe
    have q0 := B5.out.c0
    have qf := B5.out.fz 0
    go_upto_region 11 with fail
    obtain ⟨wf, hwf⟩ : ∃ wf : World, wf = we.setCell ⟨wa.heap.size, 0, none⟩ (.int .i64 (-1)) := ⟨_, rfl⟩
    rw [← hwf]
    have BP := Lib.hid (BP.out.other (q := wa.heap.size) (by have := zwa.out; have := zwb.out; have := zwc.out; have := zwd.out; have := zwe.out; omega) 0 (.int .i64 (-1)))
    have B4 := Lib.hid (B4.out.other (q := wa.heap.size) (by have := zwa.out; have := zwb.out; have := zwc.out; have := zwd.out; have := zwe.out; omega) 0 (.int .i64 (-1)))
    have B6 := Lib.hid (B6.out.other (q := wa.heap.size) (by have := zwa.out; have := zwb.out; have := zwc.out; have := zwd.out; have := zwe.out; omega) 0 (.int .i64 (-1)))
    have B7 := Lib.hid (B7.out.other (q := wa.heap.size) (by have := zwa.out; have := zwb.out; have := zwc.out; have := zwd.out; have := zwe.out; omega) 0 (.int .i64 (-1)))
    have B5 := Lib.hid (B5.out.set0 (-1))
    have HB4xxxxxx := Lib.hid (HB4xxxxx.out.setCell (p := ⟨wa.heap.size, 0, none⟩) (by show w.heap.size ≤ wa.heap.size; have := zwa.out; have := zwb.out; have := zwc.out; have := zwd.out; have := zwe.out; omega) (.int .i64 (-1)))
    have zwf : Hid (wf.heap.size = we.heap.size) := by rw [hwf]; show _ = _; simp
    rw [← hwf] at BP B4 B5 B6 B7 HB4xxxxxx
    clear q0 qf hwf
    have q1 := B6.out.c1
    have qf := B6.out.fz 1
    go_upto_region 12 with fail
    obtain ⟨wg, hwg⟩ : ∃ wg : World, wg = wf.setCell ⟨wb.heap.size, 1, none⟩ (.string { data := #[] }) := ⟨_, rfl⟩
    rw [← hwg]
    have BP := Lib.hid (BP.out.other (q := wb.heap.size) (by have := zwa.out; have := zwb.out; have := zwc.out; have := zwd.out; have := zwe.out; have := zwf.out; omega) 1 (.string { data := #[] }))
    have B4 := Lib.hid (B4.out.other (q := wb.heap.size) (by have := zwa.out; have := zwb.out; have := zwc.out; have := zwd.out; have := zwe.out; have := zwf.out; omega) 1 (.string { data := #[] }))
    have B5 := Lib.hid (B5.out.other (q := wb.heap.size) (by have := zwa.out; have := zwb.out; have := zwc.out; have := zwd.out; have := zwe.out; have := zwf.out; omega) 1 (.string { data := #[] }))
    have B7 := Lib.hid (B7.out.other (q := wb.heap.size) (by have := zwa.out; have := zwb.out; have := zwc.out; have := zwd.out; have := zwe.out; have := zwf.out; omega) 1 (.string { data := #[] }))
    have B6 := Lib.hid (B6.out.set1 ({ data := #[] }))
    have HB4xxxxxxx := Lib.hid (HB4xxxxxx.out.setCell (p := ⟨wb.heap.size, 1, none⟩) (by show w.heap.size ≤ wb.heap.size; have := zwa.out; have := zwb.out; have := zwc.out; have := zwd.out; have := zwe.out; have := zwf.out; omega) (.string { data := #[] }))
    have zwg : Hid (wg.heap.size = wf.heap.size) := by rw [hwg]; show _ = _; simp
    rw [← hwg] at BP B4 B5 B6 B7 HB4xxxxxxx
    clear q1 qf hwg
    have q2 := B7.out.c2
    have qf := B7.out.fz 2
    go_upto_region 13 with fail
    obtain ⟨wh, hwh⟩ : ∃ wh : World, wh = wg.setCell ⟨wc.heap.size, 2, none⟩ (.int .i64 (4)) := ⟨_, rfl⟩
    rw [← hwh]
    have BP := Lib.hid (BP.out.other (q := wc.heap.size) (by have := zwa.out; have := zwb.out; have := zwc.out; have := zwd.out; have := zwe.out; have := zwf.out; have := zwg.out; omega) 2 (.int .i64 (4)))
    have B4 := Lib.hid (B4.out.other (q := wc.heap.size) (by have := zwa.out; have := zwb.out; have := zwc.out; have := zwd.out; have := zwe.out; have := zwf.out; have := zwg.out; omega) 2 (.int .i64 (4)))
    have B5 := Lib.hid (B5.out.other (q := wc.heap.size) (by have := zwa.out; have := zwb.out; have := zwc.out; have := zwd.out; have := zwe.out; have := zwf.out; have := zwg.out; omega) 2 (.int .i64 (4)))
    have B6 := Lib.hid (B6.out.other (q := wc.heap.size) (by have := zwa.out; have := zwb.out; have := zwc.out; have := zwd.out; have := zwe.out; have := zwf.out; have := zwg.out; omega) 2 (.int .i64 (4)))
    have B7 := Lib.hid (B7.out.set2 (4))
    have HB4xxxxxxxx := Lib.hid (HB4xxxxxxx.out.setCell (p := ⟨wc.heap.size, 2, none⟩) (by show w.heap.size ≤ wc.heap.size; have := zwa.out; have := zwb.out; have := zwc.out; have := zwd.out; have := zwe.out; have := zwf.out; have := zwg.out; omega) (.int .i64 (4)))
    have zwh : Hid (wh.heap.size = wg.heap.size) := by rw [hwh]; show _ = _; simp
    rw [← hwh] at BP B4 B5 B6 B7 HB4xxxxxxxx
    clear q2 qf hwh
    have q0 := BP.out.c0
    have q1 := BP.out.c1
    have q2 := BP.out.c2
    have q3 := BP.out.c3
    have q4 := BP.out.c4
    go_upto_region 14 with fail
    obtain ⟨wi, hwi⟩ : ∃ wi : World, wi = wh.alloc (.cells #[.int .i64 t, .string m, .int .i64 ty, .int .i64 n, .string z] 49) := ⟨_, rfl⟩
    rw [← hwi]
    have BP := Lib.hid (BP.out.alloc (.cells #[.int .i64 t, .string m, .int .i64 ty, .int .i64 n, .string z] 49))
    have B4 := Lib.hid (B4.out.alloc (.cells #[.int .i64 t, .string m, .int .i64 ty, .int .i64 n, .string z] 49))
    have B5 := Lib.hid (B5.out.alloc (.cells #[.int .i64 t, .string m, .int .i64 ty, .int .i64 n, .string z] 49))
    have B6 := Lib.hid (B6.out.alloc (.cells #[.int .i64 t, .string m, .int .i64 ty, .int .i64 n, .string z] 49))
    have B7 := Lib.hid (B7.out.alloc (.cells #[.int .i64 t, .string m, .int .i64 ty, .int .i64 n, .string z] 49))
    have B8 := Lib.hid (Box.new wh t m ty n z)
    have HB4xxxxxxxxx := Lib.hid (HB4xxxxxxxx.out.alloc HB4xxxxxxxx.out.size (.cells #[.int .i64 t, .string m, .int .i64 ty, .int .i64 n, .string z] 49))
    have zwi : Hid (wi.heap.size = wh.heap.size + 1) := by rw [hwi]; show _ = _; simp
    rw [← hwi] at BP B4 B5 B6 B7 B8 HB4xxxxxxxxx
    clear q0 q1 q2 q3 q4
    clear hwi
    have q0 := B8.out.c0
    have qf := B8.out.fz 0
    go_upto_region 15 with fail
    obtain ⟨wj, hwj⟩ : ∃ wj : World, wj = wi.setCell ⟨wh.heap.size, 0, none⟩ (.int .i64 (0)) := ⟨_, rfl⟩
    rw [← hwj]
    have BP := Lib.hid (BP.out.other (q := wh.heap.size) (by have := zwa.out; have := zwb.out; have := zwc.out; have := zwd.out; have := zwe.out; have := zwf.out; have := zwg.out; have := zwh.out; have := zwi.out; omega) 0 (.int .i64 (0)))
    have B4 := Lib.hid (B4.out.other (q := wh.heap.size) (by have := zwa.out; have := zwb.out; have := zwc.out; have := zwd.out; have := zwe.out; have := zwf.out; have := zwg.out; have := zwh.out; have := zwi.out; omega) 0 (.int .i64 (0)))
    have B5 := Lib.hid (B5.out.other (q := wh.heap.size) (by have := zwa.out; have := zwb.out; have := zwc.out; have := zwd.out; have := zwe.out; have := zwf.out; have := zwg.out; have := zwh.out; have := zwi.out; omega) 0 (.int .i64 (0)))
    have B6 := Lib.hid (B6.out.other (q := wh.heap.size) (by have := zwa.out; have := zwb.out; have := zwc.out; have := zwd.out; have := zwe.out; have := zwf.out; have := zwg.out; have := zwh.out; have := zwi.out; omega) 0 (.int .i64 (0)))
    have B7 := Lib.hid (B7.out.other (q := wh.heap.size) (by have := zwa.out; have := zwb.out; have := zwc.out; have := zwd.out; have := zwe.out; have := zwf.out; have := zwg.out; have := zwh.out; have := zwi.out; omega) 0 (.int .i64 (0)))
    have B8 := Lib.hid (B8.out.set0 (0))
    have HB4xxxxxxxxxx := Lib.hid (HB4xxxxxxxxx.out.setCell (p := ⟨wh.heap.size, 0, none⟩) (by show w.heap.size ≤ wh.heap.size; have := zwa.out; have := zwb.out; have := zwc.out; have := zwd.out; have := zwe.out; have := zwf.out; have := zwg.out; have := zwh.out; have := zwi.out; omega) (.int .i64 (0)))
    have zwj : Hid (wj.heap.size = wi.heap.size) := by rw [hwj]; show _ = _; simp
    rw [← hwj] at BP B4 B5 B6 B7 B8 HB4xxxxxxxxxx
    clear q0 qf hwj
    obtain ⟨o1, o2, o3, o4, o5, o6⟩ := HO.out
    obtain ⟨va, ia, ma⟩ := emay_all 201 m ty n z
    obtain rfl : va = false := Bool.eq_false_iff.2 fun h => by have := (ia.1 h).2.1; omega
    obtain ⟨vb, ib, mb⟩ := emay_all (-1) m ty n z
    obtain rfl : vb = false := Bool.eq_false_iff.2 fun h => by have := (ib.1 h).1; omega
    obtain ⟨vc, ic, mc⟩ := emay_all t { data := #[] } ty n z
    obtain rfl : vc = false := Bool.eq_false_iff.2 fun h => by have := (ic.1 h).2.2.1; have e : (({ data := #[] } : ByteArray)).size = 0 := rfl; omega
    obtain ⟨vd, id', md⟩ := emay_all t m 4 n z
    obtain rfl : vd = false := Bool.eq_false_iff.2 fun h => (id'.1 h).2.2.2.2.2 rfl
    obtain ⟨ve, ie, me⟩ := emay_all 0 m ty n z
    obtain rfl : ve = true := ie.2 ⟨by omega, by omega, o3, o4, o5, o6⟩
    have Ma := Lib.hid ma
    have Mb := Lib.hid mb
    have Mc := Lib.hid mc
    have Md := Lib.hid md
    have Me := Lib.hid me
    have g1 : decide (0 ≤ t) = true := decide_eq_true o1
    have g2 : decide (t ≤ 200) = true := decide_eq_true o2
    have g3 : (m.size : Int) ≤ 8 := by omega
    have g4 : (ty == 4) = false := by simpa using o6
    have g5 : (ty != 4) = true := by simpa using o6
    clear ia ib ic id' ie ma mb mc md me o3 o4 o5 HO
    have q0 := BP.out.c0
    have q1 := BP.out.c1
    have q2 := BP.out.c2
    have r0 := B4.out.c0
    have r1 := B4.out.c1
    have r2 := B4.out.c2
    have r3 := B4.out.c3
    have r4 := B4.out.c4
    go_wp2_with fail
    refine (Ma.out wj).mono ?_
    rintro e v0 ⟨rfl, k0⟩
    clear q0 q1 q2
    clear r0 r1 r2 r3 r4
    have BP := Lib.hid (BP.out.keep k0)
    have B4 := Lib.hid (B4.out.keep k0)
    have B5 := Lib.hid (B5.out.keep k0)
    have B6 := Lib.hid (B6.out.keep k0)
    have B7 := Lib.hid (B7.out.keep k0)
    have B8 := Lib.hid (B8.out.keep k0)
    have HB4xxxxxxxxxxx := Lib.hid (HB4xxxxxxxxxx.out.trans (k0.toBelow HB4xxxxxxxxxx.out.size (fun _ h => h.elim)))
    clear k0
    have q0 := BP.out.c0
    have q1 := BP.out.c1
    have q2 := BP.out.c2
    have r0 := B5.out.c0
    have r1 := B5.out.c1
    have r2 := B5.out.c2
    have r3 := B5.out.c3
    have r4 := B5.out.c4
    go_wp2_with fail
    refine (Mb.out v0).mono ?_
    rintro e v1 ⟨rfl, k1⟩
    clear q0 q1 q2
    clear r0 r1 r2 r3 r4
    have BP := Lib.hid (BP.out.keep k1)
    have B4 := Lib.hid (B4.out.keep k1)
    have B5 := Lib.hid (B5.out.keep k1)
    have B6 := Lib.hid (B6.out.keep k1)
    have B7 := Lib.hid (B7.out.keep k1)
    have B8 := Lib.hid (B8.out.keep k1)
    have HB4xxxxxxxxxxxx := Lib.hid (HB4xxxxxxxxxxx.out.trans (k1.toBelow HB4xxxxxxxxxxx.out.size (fun _ h => h.elim)))
    clear k1
    have q0 := BP.out.c0
    have q1 := BP.out.c1
    have q2 := BP.out.c2
    have r0 := B6.out.c0
    have r1 := B6.out.c1
    have r2 := B6.out.c2
    have r3 := B6.out.c3
    have r4 := B6.out.c4
    go_wp2_with fail
    refine (Mc.out v1).mono ?_
    rintro e v2 ⟨rfl, k2⟩
    clear q0 q1 q2
    clear r0 r1 r2 r3 r4
    have BP := Lib.hid (BP.out.keep k2)
    have B4 := Lib.hid (B4.out.keep k2)
    have B5 := Lib.hid (B5.out.keep k2)
    have B6 := Lib.hid (B6.out.keep k2)
    have B7 := Lib.hid (B7.out.keep k2)
    have B8 := Lib.hid (B8.out.keep k2)
    have HB4xxxxxxxxxxxxx := Lib.hid (HB4xxxxxxxxxxxx.out.trans (k2.toBelow HB4xxxxxxxxxxxx.out.size (fun _ h => h.elim)))
    clear k2
    have q0 := BP.out.c0
    have q1 := BP.out.c1
    have q2 := BP.out.c2
    have r0 := B7.out.c0
    have r1 := B7.out.c1
    have r2 := B7.out.c2
    have r3 := B7.out.c3
    have r4 := B7.out.c4
    go_wp2_with fail
    refine (Md.out v2).mono ?_
    rintro e v3 ⟨rfl, k3⟩
    clear q0 q1 q2
    clear r0 r1 r2 r3 r4
    have BP := Lib.hid (BP.out.keep k3)
    have B4 := Lib.hid (B4.out.keep k3)
    have B5 := Lib.hid (B5.out.keep k3)
    have B6 := Lib.hid (B6.out.keep k3)
    have B7 := Lib.hid (B7.out.keep k3)
    have B8 := Lib.hid (B8.out.keep k3)
    have HB4xxxxxxxxxxxxxx := Lib.hid (HB4xxxxxxxxxxxxx.out.trans (k3.toBelow HB4xxxxxxxxxxxxx.out.size (fun _ h => h.elim)))
    clear k3
    have q0 := BP.out.c0
    have q1 := BP.out.c1
    have q2 := BP.out.c2
    have r0 := B8.out.c0
    have r1 := B8.out.c1
    have r2 := B8.out.c2
    have r3 := B8.out.c3
    have r4 := B8.out.c4
    go_wp2_with fail
    refine (Me.out v3).mono ?_
    rintro e v4 ⟨rfl, k4⟩
    clear q0 q1 q2
    clear r0 r1 r2 r3 r4
    have BP := Lib.hid (BP.out.keep k4)
    have B4 := Lib.hid (B4.out.keep k4)
    have B5 := Lib.hid (B5.out.keep k4)
    have B6 := Lib.hid (B6.out.keep k4)
    have B7 := Lib.hid (B7.out.keep k4)
    have B8 := Lib.hid (B8.out.keep k4)
    have HB4xxxxxxxxxxxxxxx := Lib.hid (HB4xxxxxxxxxxxxxx.out.trans (k4.toBelow HB4xxxxxxxxxxxxxx.out.size (fun _ h => h.elim)))
    clear k4
    go_wp2
    go_ret
    exact ⟨rfl, HB4xxxxxxxxxxxxxxx.out⟩

end Go.Proofs.Ytpighdioomjnmab
