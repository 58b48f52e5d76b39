/-
  Layer 10: the contract of Clone. Written by an AI agent.
-/
import Derived.Test.YtpighdioomjnmaaHpU
import Derived.Deep.OwnRows
import Derived.BigRegion
import Derived.Deep.DeepCutAuto
import Derived.Deep.RegionHeld3
namespace Go.Proofs.Ytpighdioomjnmaa
open Go.RowKit
set_option linter.unusedVariables false

abbrev zrow (n : Nat) : Obj := .cells (madeCells #[Value.int .i64 0] n) 3
theorem own_zrow (w : World) (n : Nat) (hn : n ≤ 1000) : (w.alloc (zrow n)).ownsRow 0 3 1 (.slice (some ⟨w.heap.size, 0, none⟩) n n) n (iv (List.replicate n 0)) := by
  have h := World.ownsRow_lit (base := 0) (e := 3) (size := 1) w (madeCells #[Value.int .i64 0] n) n (Nat.zero_le _) (by unfold maxLen; omega) (by rw [size_madeCells]; omega)
  rw [toList_madeCells_one] at h
  rw [iv_zeros]
  exact h

theorem made01 (w : World) (a b : Nat) (ha : a ≤ 1000) (hb : b ≤ 1000) :
    HeapIs (((w.alloc (zrow a)).alloc (zrow b)).alloc (.cells #[.slice (some ⟨w.heap.size, 0, none⟩) a a, .slice (some ⟨w.heap.size + 1, 0, none⟩) b b] 52)).drew (fun k => w.heap.size ≤ k) (w.heap.size + 1 + 1)
      (.slice (some ⟨w.heap.size, 0, none⟩) a a) (.slice (some ⟨w.heap.size + 1, 0, none⟩) b b) (List.replicate a 0) (List.replicate b 0) := by
  have o1 := ((own_zrow w a ha).alloc (zrow b)).alloc (.cells #[.slice (some ⟨w.heap.size, 0, none⟩) a a, .slice (some ⟨w.heap.size + 1, 0, none⟩) b b] 52)
  have o2 := (own_zrow (w.alloc (zrow a)) b hb).alloc (.cells #[.slice (some ⟨w.heap.size, 0, none⟩) a a, .slice (some ⟨w.heap.size + 1, 0, none⟩) b b] 52)
  have e1 : (w.alloc (zrow a)).heap.size = w.heap.size + 1 := by simp
  have e2 : ((w.alloc (zrow a)).alloc (zrow b)).heap.size = w.heap.size + 1 + 1 := by simp
  rw [e1] at o2
  have s := e2
  refine ⟨?_, ?_, fun k => ?_, ?_, ?_, ?_, ?_, ?_, ?_, ?_⟩
  · rw [World.cell?_drew, ← e2, World.cell?_alloc_new]; rfl
  · rw [World.cell?_drew, ← e2, World.cell?_alloc_new]; rfl
  · show (World.alloc _ _).frozen? _ = false
    rw [← e2]; exact World.frozen?_alloc_new _ _ _ _
  · show _ < (World.alloc _ _).heap.size
    simp
  · rw [List.length_replicate]; exact o1.drew
  · rw [List.length_replicate]; exact o2.drew
  · show w.heap.size ≤ w.heap.size + 1 + 1; omega
  · intro k hk
    have : w.heap.size = k := by simpa [Value.ownBlock] using hk
    refine ⟨by show w.heap.size ≤ k; omega, by omega, ?_⟩
    show _ < (World.alloc _ _).heap.size
    simp; omega
  · intro k hk
    have : w.heap.size + 1 = k := by simpa [Value.ownBlock] using hk
    refine ⟨by show w.heap.size ≤ k; omega, by omega, ?_⟩
    show _ < (World.alloc _ _).heap.size
    simp; omega
  · intro k hk he
    have h1 : w.heap.size = k := by simpa [Value.ownBlock] using hk
    have h2 : w.heap.size + 1 = k := by simpa [Value.ownBlock] using he
    omega

theorem made10 (w : World) (a b : Nat) (ha : a ≤ 1000) (hb : b ≤ 1000) :
    HeapIs (((w.alloc (zrow b)).alloc (zrow a)).alloc (.cells #[.slice (some ⟨w.heap.size + 1, 0, none⟩) a a, .slice (some ⟨w.heap.size, 0, none⟩) b b] 52)).drew (fun k => w.heap.size ≤ k) (w.heap.size + 1 + 1)
      (.slice (some ⟨w.heap.size + 1, 0, none⟩) a a) (.slice (some ⟨w.heap.size, 0, none⟩) b b) (List.replicate a 0) (List.replicate b 0) := by
  have o1 := ((own_zrow w b hb).alloc (zrow a)).alloc (.cells #[.slice (some ⟨w.heap.size + 1, 0, none⟩) a a, .slice (some ⟨w.heap.size, 0, none⟩) b b] 52)
  have o2 := (own_zrow (w.alloc (zrow b)) a ha).alloc (.cells #[.slice (some ⟨w.heap.size + 1, 0, none⟩) a a, .slice (some ⟨w.heap.size, 0, none⟩) b b] 52)
  have e1 : (w.alloc (zrow b)).heap.size = w.heap.size + 1 := by simp
  have e2 : ((w.alloc (zrow b)).alloc (zrow a)).heap.size = w.heap.size + 1 + 1 := by simp
  rw [e1] at o2
  refine ⟨?_, ?_, fun k => ?_, ?_, ?_, ?_, ?_, ?_, ?_, ?_⟩
  · rw [World.cell?_drew, ← e2, World.cell?_alloc_new]; rfl
  · rw [World.cell?_drew, ← e2, World.cell?_alloc_new]; rfl
  · show (World.alloc _ _).frozen? _ = false
    rw [← e2]; exact World.frozen?_alloc_new _ _ _ _
  · show _ < (World.alloc _ _).heap.size
    simp
  · rw [List.length_replicate]; exact o2.drew
  · rw [List.length_replicate]; exact o1.drew
  · show w.heap.size ≤ w.heap.size + 1 + 1; omega
  · intro k hk
    have : w.heap.size + 1 = k := by simpa [Value.ownBlock] using hk
    refine ⟨by show w.heap.size ≤ k; omega, by omega, ?_⟩
    show _ < (World.alloc _ _).heap.size
    simp; omega
  · intro k hk
    have : w.heap.size = k := by simpa [Value.ownBlock] using hk
    refine ⟨by show w.heap.size ≤ k; omega, by omega, ?_⟩
    show _ < (World.alloc _ _).heap.size
    simp; omega
  · intro k hk he
    have h1 : w.heap.size + 1 = k := by simpa [Value.ownBlock] using hk
    have h2 : w.heap.size = k := by simpa [Value.ownBlock] using he
    omega

theorem HeapIs.narrow {w : World} {S : Nat → Prop} {p : Nat} {vc ve : Value} {cs es : List Int} (h : HeapIs w S p vc ve cs es) : HeapIs w (fun k => S k ∧ k < w.heap.size) p vc ve cs es :=
  h.wider fun k hk hS => ⟨hS, hk⟩

theorem rdv_of {w : World} {A : Option Addr} {n c : Nat} {l : List Int} (h : w.ownsRow 0 3 1 (.slice A n c) n (iv l)) : RdV w A (iv l) := by
  obtain rfl : n = l.length := by have := h.1; rw [iv_length] at this; omega
  obtain ⟨A', cap, hv, _, _, _, _, hr⟩ := rdv_row h
  simp only [Value.slice.injEq] at hv
  obtain ⟨rfl, _, _⟩ := hv
  exact hr

/-- What Clone hands back: the same lists, in new memory. -/
def Cloned (cs es : List Int) (w : World) (e : Ending) (w' : World) : Prop :=
  ∃ p vc ve, e = .returned (.pointer (some ⟨p, 0, none⟩)) ∧ HeapIs w' (fun k => w.heap.size ≤ k ∧ k < w'.heap.size) p vc ve cs es ∧ Keeps (fun _ => False) w w'

set_option maxRecDepth 100000 in
set_option maxHeartbeats 2000000 in
theorem clone_raw (w : World) (S : Nat → Prop) (p lc cc le ce : Nat) (A B : Option Addr) (cs es : List Int) (H : HeapIs w S p (.slice A lc cc) (.slice B le ce) cs es) (hcs : cs.length = lc) (hes : es.length = le) (hlc : lc ≤ 1000) (hle : le ≤ 1000) :
    Calls Try.prog 18 #[.pointer (some ⟨p, 0, none⟩)] w (Cloned cs es w) := by
  have hm1 := run_make_row' (P := Try.prog) 41 3 (.int .i64 0) 8 Try.underlying41 info3 rfl .i64 .i64 lc (by omega) (by omega)
  have hm2 := run_make_row' (P := Try.prog) 41 3 (.int .i64 0) 8 Try.underlying41 info3 rfl .i64 .i64 le (by omega) (by omega)
  have q0 := H.c0
  have q1 := H.c1
  have hp := H.lt
  have HH := Lib.hid H
  have HC := Lib.hid hcs
  have HE := Lib.hid hes
  clear H hcs hes
  go_enter Try.func18, Try.ntmps18
  go_wp2_with fail
  go_cut [3] (fun s wx => ∃ p' g1 g2, s = .pointer (some ⟨p', 0, none⟩) ∧ HeapIs wx (fun k => w.heap.size ≤ k ∧ k < wx.heap.size) p' (.slice (some ⟨g1, 0, none⟩) lc lc) (.slice (some ⟨g2, 0, none⟩) le le) (List.replicate lc 0) (List.replicate le 0) ∧ Keeps (fun _ => False) w wx)
  case first =>
    go_region
    · go_wp2_with fail
      go_meet
      exact ⟨_, _, _, rfl, (made01 w lc le hlc hle).narrow, (((Keeps.refl _ _).alloc _).alloc _).alloc _ |>.drew⟩
    · go_wp2_with fail
      go_meet
      exact ⟨_, _, _, rfl, (made10 w lc le hlc hle).narrow, (((Keeps.refl _ _).alloc _).alloc _).alloc _ |>.drew⟩
  case rest =>
    obtain ⟨p', g1, g2, rfl, h1, k1⟩ := hcut
    have hw1 := HH.out.keep k1 (fun _ _ _ h => h)
    have a0 := h1.c0
    have a1 := h1.c1
    have b0 := hw1.c0
    have b1 := hw1.c1
    obtain ⟨cur1, hl1, hn1, hg1⟩ := own_row (n := lc) (xs := iv (List.replicate lc 0)) (by have := h1.oc; rw [List.length_replicate] at this; exact this)
    obtain ⟨cur2, hl2, hn2, hg2⟩ := own_row (n := le) (xs := iv (List.replicate le 0)) (by have := h1.oe; rw [List.length_replicate] at this; exact this)
    have ne12 : g1 ≠ g2 := fun e => h1.ce g1 rfl (by rw [e]; rfl)
    have ra1 : RdV wc A (iv cs) := rdv_of (n := lc) (c := cc) (by have := hw1.oc; rw [HC.out] at this; exact this)
    have pl1 := h1.lt
    have nep1 : p' ≠ g1 := fun e => (h1.sc g1 rfl).2.1 e.symm
    have nep2 : p ≠ g1 := fun e => by have := (h1.sc g1 rfl).1.1; have := hw1.lt; omega
    have nep3 : p' ≠ g2 := fun e => (h1.se g2 rfl).2.1 e.symm
    have nep4 : p ≠ g2 := fun e => by have := (h1.se g2 rfl).1.1; have := hw1.lt; omega
    have H1 := Lib.hid h1
    have W1 := Lib.hid hw1
    have K1 := Lib.hid k1
    have G1 := Lib.hid hg1
    have R1 := Lib.hid ra1
    have L1 := Lib.hid hl1
    clear h1 hw1 k1 hg1 hg2 hl1 hn1 hl2 hn2 ra1 a1 b1
    go_wp2_with fail
    go_region_held3 (fun w' => w'.cell? ⟨p', 0, none⟩ = some (.slice (some ⟨g1, 0, none⟩) lc lc) ∧ w'.cell? ⟨p, 0, none⟩ = some (.slice A lc cc))
      (first
        | exact ⟨a0, b0⟩
        | exact ⟨(World.cell?_of_block (w := wc) (a := ⟨p', 0, none⟩) (setRow_other _ _ _ _ nep1)).trans a0, (World.cell?_of_block (w := wc) (a := ⟨p, 0, none⟩) (setRow_other _ _ _ _ nep2)).trans b0⟩)
      ((refine step_copy_at (by rfl) (.tmp 21) (.tmp 25) 41 41 (by rfl) 3 Try.underlying41 info3s (some ⟨g1, 0, none⟩) A lc lc cc g1 0 (by rfl) (by rfl) cur1 3 G1.out (iv cs) (by rw [iv_length, HC.out]) (fun _ => rfl) R1.out (by rw [iv_length, HC.out, L1.out]; omega) (iv_one _) ?_))
    obtain ⟨w5, hw5⟩ : ∃ w5 : World, w5 = wc.drew.setRow g1 (splice cur1 0 (iv cs)).toArray := ⟨_, rfl⟩
    have hd1 : HeapIs wc.drew (fun k => w.heap.size ≤ k ∧ k < wc.heap.size) p' (.slice (some ⟨g1, 0, none⟩) lc lc) (.slice (some ⟨g2, 0, none⟩) le le) (List.replicate lc 0) (List.replicate le 0) := H1.out.keep (T := fun _ => False) (Keeps.refl _ _).drew (fun _ _ _ h => h)
    have c5 := hd1.copied0 (g := g1) rfl cur1 G1.out 0 cs (by rw [HC.out, List.length_replicate]; omega)
    rw [splice_all _ cs (by rw [HC.out, List.length_replicate]), ← hw5] at c5
    obtain ⟨h5, k5⟩ := c5
    have s5 : w5.heap.size = wc.heap.size := by rw [hw5]; exact size_setRow _ _ _
    rw [← hw5]
    have K5 : Hid (Keeps (fun k => w.heap.size ≤ k ∧ k < wc.heap.size) wc w5) := ((Keeps.refl _ wc).drew).trans k5 (fun _ _ h => h)
    have hww : HeapIs w5 S p (.slice A lc cc) (.slice B le ce) cs es := HH.out.keep (T := fun k => w.heap.size ≤ k ∧ k < wc.heap.size) ((K1.out.mono (fun _ _ h => h.elim)).trans K5.out (fun _ _ h => h)) (fun k hk _ hT => absurd hT.1 (by omega))
    clear hw5 k5 a0 b0 hd1 G1 R1 L1 H1 W1
    have a1 := h5.c1
    have b1 := hww.c1
    obtain ⟨cur3, hl3, _, hg3⟩ := own_row (n := le) (xs := iv (List.replicate le 0)) (by have := h5.oe; rw [List.length_replicate] at this; exact this)
    have rb : RdV w5 B (iv es) := rdv_of (n := le) (c := ce) (by have := hww.oe; rw [HE.out] at this; exact this)
    have H5 := Lib.hid h5
    have G3 := Lib.hid hg3
    have R3 := Lib.hid rb
    have L3 := Lib.hid hl3
    have S5 := Lib.hid s5
    clear h5 hww hg3 rb hl3 s5
    go_wp2_with fail
    go_region_held3 (fun w' => w'.cell? ⟨p', 1, none⟩ = some (.slice (some ⟨g2, 0, none⟩) le le) ∧ w'.cell? ⟨p, 1, none⟩ = some (.slice B le ce))
      (first
        | exact ⟨a1, b1⟩
        | exact ⟨(World.cell?_of_block (w := w5) (a := ⟨p', 1, none⟩) (setRow_other _ _ _ _ nep3)).trans a1, (World.cell?_of_block (w := w5) (a := ⟨p, 1, none⟩) (setRow_other _ _ _ _ nep4)).trans b1⟩)
      ((refine step_copy_at (by rfl) (.tmp 30) (.tmp 34) 41 41 (by rfl) 3 Try.underlying41 info3s (some ⟨g2, 0, none⟩) B le le ce g2 0 (by rfl) (by rfl) cur3 3 G3.out (iv es) (by rw [iv_length, HE.out]) (fun _ => rfl) R3.out (by rw [iv_length, HE.out, L3.out]; omega) (iv_one _) ?_))
    obtain ⟨w6, hw6⟩ : ∃ w6 : World, w6 = w5.drew.setRow g2 (splice cur3 0 (iv es)).toArray := ⟨_, rfl⟩
    have hd2 : HeapIs w5.drew (fun k => w.heap.size ≤ k ∧ k < wc.heap.size) p' (.slice (some ⟨g1, 0, none⟩) lc lc) (.slice (some ⟨g2, 0, none⟩) le le) cs (List.replicate le 0) := H5.out.keep (T := fun _ => False) (Keeps.refl _ _).drew (fun _ _ _ h => h)
    have c6 := hd2.copied1 (g := g2) rfl cur3 G3.out 0 es (by rw [HE.out, List.length_replicate]; omega)
    rw [splice_all _ es (by rw [HE.out, List.length_replicate]), ← hw6] at c6
    obtain ⟨h6, k6⟩ := c6
    have s6 : w6.heap.size = wc.heap.size := by rw [hw6]; exact (size_setRow _ _ _).trans S5.out
    rw [← hw6]
    have k16 : Keeps (fun k => w.heap.size ≤ k ∧ k < wc.heap.size) w w6 := ((K1.out.mono (fun _ _ h => h.elim)).trans K5.out (fun _ _ h => h)).trans ((Keeps.refl _ w5).drew.trans k6 (fun _ _ h => h)) (fun _ _ h => h)
    have k7 : Keeps (fun _ => False) w w6 := k16.mono (fun k hk h => absurd h.1 (by omega))
    have h7 : HeapIs w6 (fun k => w.heap.size ≤ k ∧ k < w6.heap.size) p' (.slice (some ⟨g1, 0, none⟩) lc lc) (.slice (some ⟨g2, 0, none⟩) le le) cs es := h6.wider (fun k hk hS => ⟨hS.1, hk⟩)
    have H7 := Lib.hid h7
    have K7 := Lib.hid k7
    clear hw6 hd2 h6 k6 s6 k16 h7 k7 a1 b1
    go_wp2
    go_ret
    exact ⟨p', _, _, rfl, H7.out, K7.out⟩

theorem clone_ok (w : World) (S : Nat → Prop) (p : Nat) (L : List (List Int)) (H : HeapL w S p L) (hL : L.length ≤ 1000) (hc : L.flatten.length ≤ 1000) :
    Calls Try.prog 18 #[.pointer (some ⟨p, 0, none⟩)] w fun e w' => ∃ p', e = .returned (.pointer (some ⟨p', 0, none⟩)) ∧ HeapL w' (fun k => w.heap.size ≤ k ∧ k < w'.heap.size) p' L ∧ Keeps (fun _ => False) w w' := by
  obtain ⟨vc, ve, H⟩ := H
  obtain ⟨A, cc, rfl, _⟩ := rdv_row H.oc
  obtain ⟨B, ce, rfl, _⟩ := rdv_row H.oe
  refine (clone_raw w S p _ cc _ ce A B L.flatten (ends L) H rfl rfl hc (by rw [ends_length]; exact hL)).mono ?_
  rintro e w' ⟨p', vc, ve, h1, h2, h3⟩
  exact ⟨p', h1, ⟨vc, ve, h2⟩, h3⟩

end Go.Proofs.Ytpighdioomjnmaa
