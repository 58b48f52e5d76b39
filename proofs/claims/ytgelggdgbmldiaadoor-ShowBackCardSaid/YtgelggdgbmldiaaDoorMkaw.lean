/-
  Layer 2: the document's reader in memory. Written by an AI agent.
  Layer 2: the document's reader: fails. Written by an AI agent.
-/
import Derived.Test.YtgelggdgbmldiaaDoorMkav
namespace Go.Proofs.YtgelggdgbmldiaaDoor
open Go Go.RowKit Go.Shelf
set_option linter.unusedVariables false
set_option linter.unusedSimpArgs false
/-- A reader in memory: at block P, in blocks of R alone. -/
structure RedX (w : World) (P : Nat) (src : ByteArray) (T : List Tok) (A : Option Addr) (cT : Nat) (R : Nat → Prop) (s : PS) (v : Value) (L : List NM) : Prop where
  c0 : w.cell? ⟨P, 0, none⟩ = some (.string src)
  c1 : w.cell? ⟨P, 1, none⟩ = some (.slice A T.length cT)
  c2 : w.cell? ⟨P, 2, none⟩ = some (.int .i64 (s.i : Int))
  c3 : w.cell? ⟨P, 3, none⟩ = some v
  c4 : w.cell? ⟨P, 4, none⟩ = some (.int .i64 s.dp)
  c5 : w.cell? ⟨P, 5, none⟩ = some (.int .i64 (s.er : Int))
  c6 : w.cell? ⟨P, 6, none⟩ = some (.int .i64 (s.pl : Int))
  fz : ∀ k, w.frozen? ⟨P, k, none⟩ = false
  lt : ∀ b, R b → b < w.heap.size
  rp : R P
  tok : RdT w A T
  tb : ∀ b off, A = some ⟨b, off, none⟩ → R b ∧ b ≠ P ∧ ∀ g, v.ownBlock = some g → b ≠ g
  own : w.ownsRow 0 33 5 v L.length (flatN L)
  vb : ∀ g, v.ownBlock = some g → R g ∧ g ≠ P
  nd : L.map NM.d = s.nd
  ls : ∀ x ∈ L, RdI w x.a x.d.l ∧ (0 < x.d.l.length → ∀ b off, x.a = some ⟨b, off, none⟩ → R b ∧ b ≠ P ∧ ∀ g, v.ownBlock = some g → b ≠ g)
  hi : s.i < T.length
  ok : TokOK T
def Red (w : World) (P : Nat) (src : ByteArray) (T : List Tok) (R : Nat → Prop) (s : PS) : Prop := ∃ A cT v L, RedX w P src T A cT R s v L
theorem RedX.lo {w : World} {P : Nat} {src : ByteArray} {T : List Tok} {A : Option Addr} {cT : Nat} {R : Nat → Prop} {s : PS} {v : Value} {L : List NM} (h : RedX w P src T A cT R s v L) : P < w.heap.size := h.lt P h.rp
theorem RedX.keepR {w w' : World} {P : Nat} {src : ByteArray} {T : List Tok} {A : Option Addr} {cT : Nat} {R : Nat → Prop} {s : PS} {v : Value} {L : List NM} (h : RedX w P src T A cT R s v L) {S : Nat → Prop} (k : Keeps S w w') (hS : ∀ b, R b → ¬ S b) (hSP : ∀ b, S b → P ≤ b) : RedX w' P src T A cT R s v L := by
  have hP := hS P h.rp
  have hlt := h.lo
  exact { c0 := (k.cell hlt hP).trans h.c0, c1 := (k.cell hlt hP).trans h.c1, c2 := (k.cell hlt hP).trans h.c2, c3 := (k.cell hlt hP).trans h.c3, c4 := (k.cell hlt hP).trans h.c4, c5 := (k.cell hlt hP).trans h.c5, c6 := (k.cell hlt hP).trans h.c6, fz := fun j => (k.frozen hlt hP).trans (h.fz j), lt := fun b hb => Nat.lt_of_lt_of_le (h.lt b hb) k.size, rp := h.rp, tok := h.tok.keepR k (fun _ b off e => hS b (h.tb b off e).1), tb := h.tb, own := ownsRow_keep h.own (fun g hg => k.block g (own_ltk h.own hg) (hS g (h.vb g hg).1)), vb := h.vb, nd := h.nd, ls := fun x hx => ⟨(h.ls x hx).1.keep k (fun h0 b off e => hS b ((h.ls x hx).2 h0 b off e).1), (h.ls x hx).2⟩, hi := h.hi, ok := h.ok }
theorem Red.keepR {w w' : World} {P : Nat} {src : ByteArray} {T : List Tok} {R : Nat → Prop} {s : PS} (h : Red w P src T R s) {S : Nat → Prop} (k : Keeps S w w') (hS : ∀ b, R b → ¬ S b) (hSP : ∀ b, S b → P ≤ b) : Red w' P src T R s := by
  obtain ⟨A, cT, v, L, h⟩ := h
  exact ⟨A, cT, v, L, h.keepR k hS hSP⟩
theorem Red.keep {w w' : World} {P : Nat} {src : ByteArray} {T : List Tok} {R : Nat → Prop} {s : PS} (h : Red w P src T R s) (k : Keeps (fun _ => False) w w') : Red w' P src T R s := h.keepR k (fun _ _ h => h) (fun _ h => h.elim)
theorem Red.local {w : World} {P : Nat} {src : ByteArray} {T : List Tok} {R : Nat → Prop} {s : PS} (h : Red w P src T R s) {X : Nat} (hX : ¬ R X) (hPX : P < X) (k : Nat) (u : Value) : Red (w.setCell ⟨X, k, none⟩ u) P src T R s :=
  h.keepR (S := fun b => b = X) ((Keeps.refl (fun b => b = X) w).setCell (p := ⟨X, k, none⟩) (fun _ => rfl) u) (fun b hb e => hX (e ▸ hb)) (fun b e => by have e : b = X := e; omega)
theorem Red.lt {w : World} {P : Nat} {src : ByteArray} {T : List Tok} {R : Nat → Prop} {s : PS} (h : Red w P src T R s) : ∀ b, R b → b < w.heap.size := by
  obtain ⟨A, cT, v, L, h⟩ := h
  exact h.lt
theorem Red.rp {w : World} {P : Nat} {src : ByteArray} {T : List Tok} {R : Nat → Prop} {s : PS} (h : Red w P src T R s) : R P := by
  obtain ⟨A, cT, v, L, h⟩ := h
  exact h.rp
theorem Red.lo {w : World} {P : Nat} {src : ByteArray} {T : List Tok} {R : Nat → Prop} {s : PS} (h : Red w P src T R s) : P < w.heap.size := h.lt P h.rp
theorem Red.new {w : World} {P : Nat} {src : ByteArray} {T : List Tok} {R : Nat → Prop} {s : PS} (h : Red w P src T R s) : ¬ R w.heap.size := fun hr => Nat.lt_irrefl _ (h.lt _ hr)
/-- The cell of a number is written. -/
theorem RedX.set {w : World} {P : Nat} {src : ByteArray} {T : List Tok} {A : Option Addr} {cT : Nat} {R : Nat → Prop} {s s' : PS} {v : Value} {L : List NM} (h : RedX w P src T A cT R s v L) (j : Nat) (z : Int)
    (hj : (j = 2 ∧ z = s'.i ∧ s'.pl = s.pl ∧ s'.er = s.er ∧ s'.dp = s.dp) ∨ (j = 6 ∧ z = s'.pl ∧ s'.i = s.i ∧ s'.er = s.er ∧ s'.dp = s.dp) ∨ (j = 5 ∧ z = s'.er ∧ s'.i = s.i ∧ s'.pl = s.pl ∧ s'.dp = s.dp) ∨ (j = 4 ∧ z = s'.dp ∧ s'.i = s.i ∧ s'.pl = s.pl ∧ s'.er = s.er))
    (hn : s'.nd = s.nd) (hi : s'.i < T.length) : RedX (w.setCell ⟨P, j, none⟩ (.int .i64 z)) P src T A cT R s' v L ∧ Fr R w R (w.setCell ⟨P, j, none⟩ (.int .i64 z)) := by
  have k : Keeps (fun b => b = P) w (w.setCell ⟨P, j, none⟩ (.int .i64 z)) := (Keeps.refl (fun b => b = P) w).setCell (p := ⟨P, j, none⟩) (fun _ => rfl) _
  have hlt := h.lo
  have same : ∀ i x, j = i → w.cell? ⟨P, i, none⟩ = some x → (w.setCell ⟨P, j, none⟩ (.int .i64 z)).cell? ⟨P, i, none⟩ = some (.int .i64 z) := fun i x e hx => by subst e; exact cell_same w P j _ x hx
  have oth : ∀ i x, j ≠ i → w.cell? ⟨P, i, none⟩ = some x → (w.setCell ⟨P, j, none⟩ (.int .i64 z)).cell? ⟨P, i, none⟩ = some x := fun i x e hx => (cell_other w j i _ (.inl e)).trans hx
  refine ⟨?_, k.mono (fun b _ e => by rw [e]; exact h.rp), fun _ _ h => h⟩
  refine { c0 := oth _ _ (by omega) h.c0, c1 := oth _ _ (by omega) h.c1, c2 := ?_, c3 := oth _ _ (by omega) h.c3, c4 := ?_, c5 := ?_, c6 := ?_, fz := fun i => (World.frozen?_setCell w _ _ _).trans (h.fz i), lt := fun b hb => Nat.lt_of_lt_of_le (h.lt b hb) k.size, rp := h.rp, tok := h.tok.keepR k (fun _ b off e => (h.tb b off e).2.1), tb := h.tb, own := ownsRow_keep h.own (fun g hg => k.block g (own_ltk h.own hg) (h.vb g hg).2), vb := h.vb, nd := by rw [hn]; exact h.nd, ls := fun x hx => ⟨(h.ls x hx).1.keep k (fun h0 b off e => ((h.ls x hx).2 h0 b off e).2.1), (h.ls x hx).2⟩, hi := hi, ok := h.ok }
  · rcases hj with ⟨rfl, rfl, _, _, _⟩ | ⟨rfl, _, e, _, _⟩ | ⟨rfl, _, e, _, _⟩ | ⟨rfl, _, e, _, _⟩
    · exact same 2 _ rfl h.c2
    · rw [e]; exact oth 2 _ (by omega) h.c2
    · rw [e]; exact oth 2 _ (by omega) h.c2
    · rw [e]; exact oth 2 _ (by omega) h.c2
  · rcases hj with ⟨rfl, _, _, _, e⟩ | ⟨rfl, _, _, _, e⟩ | ⟨rfl, _, _, _, e⟩ | ⟨rfl, rfl, _, _, _⟩
    · rw [e]; exact oth 4 _ (by omega) h.c4
    · rw [e]; exact oth 4 _ (by omega) h.c4
    · rw [e]; exact oth 4 _ (by omega) h.c4
    · exact same 4 _ rfl h.c4
  · rcases hj with ⟨rfl, _, _, e, _⟩ | ⟨rfl, _, _, e, _⟩ | ⟨rfl, rfl, _, _, _⟩ | ⟨rfl, _, _, _, e⟩
    · rw [e]; exact oth 5 _ (by omega) h.c5
    · rw [e]; exact oth 5 _ (by omega) h.c5
    · exact same 5 _ rfl h.c5
    · rw [e]; exact oth 5 _ (by omega) h.c5
  · rcases hj with ⟨rfl, _, e, _, _⟩ | ⟨rfl, rfl, _, _, _⟩ | ⟨rfl, _, _, e, _⟩ | ⟨rfl, _, _, e, _⟩
    · rw [e]; exact oth 6 _ (by omega) h.c6
    · exact same 6 _ rfl h.c6
    · rw [e]; exact oth 6 _ (by omega) h.c6
    · rw [e]; exact oth 6 _ (by omega) h.c6
/-- What a call of the reader's leaves. -/
def PostR (P : Nat) (src : ByteArray) (T : List Tok) (R : Nat → Prop) (w : World) (r : Value) (s' : PS) (e : Ending) (w' : World) : Prop :=
  e = .returned r ∧ ∃ R', Red w' P src T R' s' ∧ Fr R w R' w'
theorem RedX.more {w : World} {P : Nat} {src : ByteArray} {T : List Tok} {A : Option Addr} {cT : Nat} {R : Nat → Prop} {s : PS} {v : Value} {L : List NM} (h : RedX w P src T A cT R s v L) (hk : (tokA T s).k ≠ 0) : s.i < T.length - 1 := by
  have h1 := h.hi
  have h2 := h.ok.last
  rcases Nat.lt_or_ge s.i (T.length - 1) with h3 | h3
  · exact h3
  · exfalso
    have h4 : s.i = T.length - 1 := by omega
    apply hk
    unfold tokA
    rw [h4]
    exact h2
theorem Red.more {w : World} {P : Nat} {src : ByteArray} {T : List Tok} {R : Nat → Prop} {s : PS} (h : Red w P src T R s) (hk : (tokA T s).k ≠ 0) : s.i < T.length - 1 := by
  obtain ⟨A, cT, v, L, h⟩ := h
  exact h.more hk
theorem Red.setI {w : World} {P : Nat} {src : ByteArray} {T : List Tok} {R : Nat → Prop} {s : PS} (h : Red w P src T R s) (i : Nat) (hi : i < T.length) : Red (w.setCell ⟨P, 2, none⟩ (.int .i64 (i : Int))) P src T R { s with i := i } ∧ Fr R w R (w.setCell ⟨P, 2, none⟩ (.int .i64 (i : Int))) := by
  obtain ⟨A, cT, v, L, h⟩ := h
  have h2 := h.set (s' := { s with i := i }) 2 (i : Int) (.inl ⟨rfl, rfl, rfl, rfl, rfl⟩) rfl hi
  exact ⟨⟨A, cT, v, L, h2.1⟩, h2.2⟩
theorem Red.setPl {w : World} {P : Nat} {src : ByteArray} {T : List Tok} {R : Nat → Prop} {s : PS} (h : Red w P src T R s) (i : Nat) : Red (w.setCell ⟨P, 6, none⟩ (.int .i64 (i : Int))) P src T R { s with pl := i } ∧ Fr R w R (w.setCell ⟨P, 6, none⟩ (.int .i64 (i : Int))) := by
  obtain ⟨A, cT, v, L, h⟩ := h
  have h2 := h.set (s' := { s with pl := i }) 6 (i : Int) (.inr (.inl ⟨rfl, rfl, rfl, rfl, rfl⟩)) rfl h.hi
  exact ⟨⟨A, cT, v, L, h2.1⟩, h2.2⟩
theorem Red.setEr {w : World} {P : Nat} {src : ByteArray} {T : List Tok} {R : Nat → Prop} {s : PS} (h : Red w P src T R s) (i : Nat) : Red (w.setCell ⟨P, 5, none⟩ (.int .i64 (i : Int))) P src T R { s with er := i } ∧ Fr R w R (w.setCell ⟨P, 5, none⟩ (.int .i64 (i : Int))) := by
  obtain ⟨A, cT, v, L, h⟩ := h
  have h2 := h.set (s' := { s with er := i }) 5 (i : Int) (.inr (.inr (.inl ⟨rfl, rfl, rfl, rfl, rfl⟩))) rfl h.hi
  exact ⟨⟨A, cT, v, L, h2.1⟩, h2.2⟩
theorem Red.setDp {w : World} {P : Nat} {src : ByteArray} {T : List Tok} {R : Nat → Prop} {s : PS} (h : Red w P src T R s) (d : Int) : Red (w.setCell ⟨P, 4, none⟩ (.int .i64 d)) P src T R { s with dp := d } ∧ Fr R w R (w.setCell ⟨P, 4, none⟩ (.int .i64 d)) := by
  obtain ⟨A, cT, v, L, h⟩ := h
  have h2 := h.set (s' := { s with dp := d }) 4 d (.inr (.inr (.inr ⟨rfl, rfl, rfl, rfl, rfl⟩))) rfl h.hi
  exact ⟨⟨A, cT, v, L, h2.1⟩, h2.2⟩
/-- What a walk reads of a parser in memory. -/
structure SeeR (w : World) (P : Nat) (src : ByteArray) (i pl er : Nat) (dp : Int) (n : Nat) : Prop where
  c0 : w.cell? ⟨P, 0, none⟩ = some (.string src)
  c1 : ∃ A cT, w.cell? ⟨P, 1, none⟩ = some (.slice A n cT)
  c2 : w.cell? ⟨P, 2, none⟩ = some (.int .i64 (i : Int))
  c4 : w.cell? ⟨P, 4, none⟩ = some (.int .i64 dp)
  c5 : w.cell? ⟨P, 5, none⟩ = some (.int .i64 (er : Int))
  c6 : w.cell? ⟨P, 6, none⟩ = some (.int .i64 (pl : Int))
  fz : ∀ k, w.frozen? ⟨P, k, none⟩ = false
theorem Red.see {w : World} {P : Nat} {src : ByteArray} {T : List Tok} {R : Nat → Prop} {s : PS} (h : Red w P src T R s) : SeeR w P src s.i s.pl s.er s.dp T.length := by
  obtain ⟨A, cT, v, L, h⟩ := h
  exact ⟨h.c0, ⟨A, cT, h.c1⟩, h.c2, h.c4, h.c5, h.c6, h.fz⟩
theorem Red.hi {w : World} {P : Nat} {src : ByteArray} {T : List Tok} {R : Nat → Prop} {s : PS} (h : Red w P src T R s) : s.i < T.length := by
  obtain ⟨A, cT, v, L, h⟩ := h
  exact h.hi
theorem Red.ok {w : World} {P : Nat} {src : ByteArray} {T : List Tok} {R : Nat → Prop} {s : PS} (h : Red w P src T R s) : TokOK T := by
  obtain ⟨A, cT, v, L, h⟩ := h
  exact h.ok
/-- The row of the tokens, as a walk reads it. -/
theorem Red.toks {w : World} {P : Nat} {src : ByteArray} {T : List Tok} {R : Nat → Prop} {s : PS} (h : Red w P src T R s) : ∃ b off cT, b ≠ P ∧ w.cell? ⟨P, 1, none⟩ = some (.slice (some ⟨b, off, none⟩) T.length cT) ∧ ∀ k, k < T.length → w.cell? ⟨b, off + k * 3, none⟩ = some (.int .i64 ((T.getD k default).k : Int)) ∧ w.cell? ⟨b, off + k * 3 + 1, none⟩ = some (.string (ofL (T.getD k default).x)) ∧ w.cell? ⟨b, off + k * 3 + 2, none⟩ = some (.int .i64 ((T.getD k default).p : Int)) := by
  obtain ⟨A, cT, v, L, h⟩ := h
  have hi := h.hi
  obtain ⟨b, off, rfl, hc⟩ := h.tok (by omega)
  exact ⟨b, off, cT, (h.tb b off rfl).2.1, h.c1, hc⟩
/-- A number more, behind what the caller made. -/
theorem own_moreR {w w1 w5 : World} {R R0 : Nat → Prop} {w0 : World} {P : Nat} {src : ByteArray} {T : List Tok} {s : PS} {v v5 : Value} (hp : Red w P src T R s) (hf : Fr R0 w0 R w) (hP0 : P < w0.heap.size) (hb : ∀ g, v.ownBlock = some g → ¬ R g ∧ w0.heap.size ≤ g) (k1 : Keeps (fun _ => False) w w1)
    (hg : w1.grownBy w5 v.ownBlock) (h5 : v5.ownBlock = v.ownBlock ∨ v5.ownBlock = some w1.heap.size) :
    Red w5 P src T R s ∧ Fr R0 w0 R w5 ∧ (∀ g, v5.ownBlock = some g → ¬ R g ∧ w0.heap.size ≤ g) ∧ Keeps (fun b => v.ownBlock = some b) w w5 := by
  have k15 : Keeps (fun b => v.ownBlock = some b) w1 w5 := ⟨hg.os, hg.tape, hg.output, hg.size, fun b hb hn => hg.block b hb (fun e => hn e.symm)⟩
  have k : Keeps (fun b => v.ownBlock = some b) w w5 := (k1.mono (T := fun b => v.ownBlock = some b) (fun _ _ h => h.elim)).trans k15 (fun _ _ h => h)
  refine ⟨hp.keepR k (fun b hr hv => (hb b hv).1 hr) (fun b hv => Nat.le_of_lt (Nat.lt_of_lt_of_le hP0 (hb b hv).2)), ⟨hf.1.trans (T := fun b => v.ownBlock = some b) k (fun x hx hv => absurd (hb x hv).2 (by omega)), hf.2⟩, fun g hg5 => ?_, k⟩
  rcases h5 with e | e
  · rw [e] at hg5
    exact hb g hg5
  · rw [e] at hg5
    cases hg5
    have h1 := k1.size
    have h2 := hf.1.size
    exact ⟨fun hr => by have := hp.lt _ hr; omega, by omega⟩
end Go.Proofs.YtgelggdgbmldiaaDoor

namespace Go.Proofs.YtgelggdgbmldiaaDoor
open Go Go.RowKit Go.Shelf
set_option linter.unusedVariables false
set_option linter.unusedSimpArgs false
set_option maxRecDepth 100000 in
set_option maxHeartbeats 8000000 in
theorem fails_any {P : Nat} {src : ByteArray} {T : List Tok} {R : Nat → Prop} {s : PS} {w : World} (h : Red w P src T R s) (e : Nat) : Calls Tryd.prog 93 #[.pointer (some ⟨P, 0, none⟩), .int .i64 (e : Int)] w (PostR P src T R w (.tuple #[]) (failR T e s)) := by
  have H := Lib.hid h
  obtain ⟨b, off, cT, hbP, c1, hc⟩ := h.toks
  have sw := h.see
  have hi := h.hi
  have hle := h.ok.le
  obtain ⟨t0, t1, t2⟩ := hc s.i hi
  have hb := cell_ltk t0
  have hP := h.lo
  have c2 := sw.c2
  have c5 := sw.c5
  have c6 := sw.c6
  have f5 := sw.fz 5
  have f6 := sw.fz 6
  by_cases he : s.er = 0
  · have hE : failR T e s = { s with pl := (tokA T s).p, er := e } := by unfold failR; rw [if_pos he]
    have hfin : Hid (∀ w1, Keeps (fun _ => False) ((w.setCell ⟨P, 5, none⟩ (.int .i64 (e : Int))).setCell ⟨P, 6, none⟩ (.int .i64 (((T.getD s.i default).p : Nat) : Int))) w1 → PostR P src T R w (.tuple #[]) (failR T e s) (.returned (.tuple #[])) w1) := Lib.hid fun w1 k => by
      rw [hE]
      have h1 := H.out.setEr e
      have h2 := h1.1.setPl (T.getD s.i default).p
      exact ⟨rfl, R, h2.1.keep k, (h1.2.trans h2.2).keeps k⟩
    rw [he] at c5
    obtain ⟨i, hI⟩ : ∃ i, i = s.i := ⟨_, rfl⟩
    obtain ⟨n, hn⟩ : ∃ n, n = T.length := ⟨_, rfl⟩
    rw [← hI] at c2 hi t0 t1 t2
    rw [← hI] at hfin
    rw [← hn] at c1 hi hle
    generalize hpp : (((T.getD i default).p : Nat) : Int) = tp at t2 hfin
    generalize (s.pl : Int) = pl0 at c6
    have h0 : (0 : Int) ≤ (i : Int) := by omega
    have h1 : (i : Int) < (n : Int) := by omega
    clear hE hI hn hc H h sw he t0 t1 hpp
    go_enter Tryd.func93, Tryd.ntmps93
    go_upto_region 2 with fail
    have e1 := (cell_other w (p := P) (q := P) 5 1 (.int .i64 (e : Int)) (.inl (by omega))).trans c1
    have e2 := (cell_other w (p := P) (q := P) 5 2 (.int .i64 (e : Int)) (.inl (by omega))).trans c2
    have e6 := (cell_other w (p := P) (q := P) 5 6 (.int .i64 (e : Int)) (.inl (by omega))).trans c6
    have g6 : (w.setCell ⟨P, 5, none⟩ (.int .i64 (e : Int))).frozen? ⟨P, 6, none⟩ = false := (World.frozen?_setCell w _ _ _).trans f6
    have u2 := (cell_other w (p := P) (q := b) 5 (off + i * 3 + 2) (.int .i64 (e : Int)) (.inr (fun h => hbP h.symm))).trans t2
    obtain ⟨w1, hw1⟩ : ∃ w1, w1 = w.setCell ⟨P, 5, none⟩ (.int .i64 (e : Int)) := ⟨_, rfl⟩
    rw [← hw1] at e1 e2 e6 g6 u2 hfin ⊢
    clear hw1 c1 c2 c5 c6 f5 f6 t2
    go_region
    all_goals go_wp2_with fail
    all_goals exact bodyPost_end (v := .tuple #[]) (by simp [results, Tryd.results93, go_sem]) rfl (hfin.out _ (by first | exact (Keeps.refl _ _) | exact (Keeps.refl _ _).drew))
  · have hE : failR T e s = s := by unfold failR; rw [if_neg he]
    have hne : ((s.er : Int) == 0) = false := by simp; omega
    have hfin : Hid (∀ w1, Keeps (fun _ => False) w w1 → PostR P src T R w (.tuple #[]) (failR T e s) (.returned (.tuple #[])) w1) := Lib.hid fun w1 k => by
      rw [hE]
      exact ⟨rfl, R, H.out.keep k, (Fr.refl R w).keeps k⟩
    generalize (s.er : Int) = er at *
    clear hE hc H h sw t0 t1 t2 c1 c2 c6 he
    go_enter Tryd.func93, Tryd.ntmps93
    go_wp2_with fail
    exact bodyPost_end (v := .tuple #[]) (by simp [results, Tryd.results93, go_sem]) rfl (hfin.out _ (Keeps.refl _ _))
set_option maxRecDepth 100000 in
set_option maxHeartbeats 8000000 in
theorem ris_any {P : Nat} {src : ByteArray} {T : List Tok} {R : Nat → Prop} {s : PS} {w : World} (h : Red w P src T R s) (x : ByteArray) : Calls Tryd.prog 61 #[.pointer (some ⟨P, 0, none⟩), .string x] w fun e w' => e = .returned (.bool (isR T x.data.toList s)) ∧ Keeps (fun _ => False) w w' := by
  have H := Lib.hid h
  obtain ⟨b, off, cT, hbP, c1, hc⟩ := h.toks
  have sw := h.see
  have hi := h.hi
  have hle := h.ok.le
  obtain ⟨t0, t1, t2⟩ := hc s.i hi
  have hb := cell_ltk t0
  have hP := h.lo
  have c2 := sw.c2
  have c5 := sw.c5
  obtain ⟨i, hI⟩ : ∃ i, i = s.i := ⟨_, rfl⟩
  obtain ⟨n, hn⟩ : ∃ n, n = T.length := ⟨_, rfl⟩
  have hv : isR T x.data.toList s = (decide ((s.er : Int) = 0) && ((decide (((T.getD s.i default).k : Int) = 5) || decide (((T.getD s.i default).k : Int) = 4)) && decide (ofL (T.getD s.i default).x = x))) := by
    unfold isR tokA
    rw [list_beq, ofL_list]
    congr 1
    · exact decide_eq_decide.2 (by omega)
    · congr 1
      congr 1
      · exact decide_eq_decide.2 (by omega)
      · exact decide_eq_decide.2 (by omega)
  rw [hv]
  rw [← hI] at c2 hi t0 t1 t2 ⊢
  rw [← hn] at c1 hi hle
  generalize ((T.getD i default).k : Int) = tk at t0 ⊢
  generalize ofL (T.getD i default).x = tx at t1 ⊢
  generalize ((T.getD i default).p : Int) = tp at t2
  generalize (s.er : Int) = er at c5 ⊢
  have h0 : (0 : Int) ≤ (i : Int) := by omega
  have h1 : (i : Int) < (n : Int) := by omega
  clear hv hI hn hc H h sw
  have hq : (tx.toList == x.toList) = decide (tx = x) := by rw [word_beq, list_beq, toList_data]
  have walk : ∀ r : Bool, ((er ≠ 0 ∧ r = false) ∨ (er = 0 ∧ tk = 5 ∧ r = (tx.toList == x.toList)) ∨ (er = 0 ∧ tk ≠ 5 ∧ tk = 4 ∧ r = (tx.toList == x.toList)) ∨ (er = 0 ∧ tk ≠ 5 ∧ tk ≠ 4 ∧ r = false)) → Calls Tryd.prog 61 #[.pointer (some ⟨P, 0, none⟩), .string x] w fun e w' => e = .returned (.bool r) ∧ Keeps (fun _ => False) w w' := by
    intro r hr
    have HRR := Lib.hid hr
    clear hr hq
    go_enter Tryd.func61, Tryd.ntmps61
    go_wp2_with fail
    have k1 : Keeps (fun _ => False) w (w.alloc (.cells #[.int .i64 tk, .string tx, .int .i64 tp] 54)).drew := ((Keeps.refl _ _).alloc _).drew
    have z := Loc.new (w := w) (R := fun _ => False) (fun h => h) [.int .i64 tk, .string tx, .int .i64 tp] 54
    have z0 : (w.alloc (.cells #[.int .i64 tk, .string tx, .int .i64 tp] 54)).drew.cell? ⟨w.heap.size, 0, none⟩ = some (.int .i64 tk) := z.cells 0 _ rfl
    have z1 : (w.alloc (.cells #[.int .i64 tk, .string tx, .int .i64 tp] 54)).drew.cell? ⟨w.heap.size, 1, none⟩ = some (.string tx) := z.cells 1 _ rfl
    have d5 := (k1.cell hP (fun h => h)).trans c5
    have K1 := Lib.hid k1
    have Z := Lib.hid (And.intro z0 (And.intro z1 d5))
    clear k1 z z0 z1 d5 c5
    go_region
    obtain ⟨z0, z1, c5⟩ := Z.out
    clear Z
    generalize w.heap.size = X at *
    generalize (w.alloc (.cells #[.int .i64 tk, .string tx, .int .i64 tp] 54)).drew = w2 at *
    clear c1 c2 t0 t1 t2 hle hi h0 h1
    rcases HRR.out with ⟨h, rfl⟩ | ⟨rfl, rfl, rfl⟩ | ⟨rfl, h5, rfl, rfl⟩ | ⟨rfl, h5, h4, rfl⟩
    · have d := (show (er == 0) = false by simpa using h)
      go_wp2_with fail
      go_ret
      exact ⟨rfl, K1.out⟩
    · go_wp2_with fail
      go_ret
      exact ⟨rfl, K1.out⟩
    · go_wp2_with fail
      go_ret
      exact ⟨rfl, K1.out⟩
    · have d5 := (show (tk == 5) = false by simpa using h5)
      have d4 := (show (tk == 4) = false by simpa using h4)
      go_wp2_with fail
      go_ret
      exact ⟨rfl, K1.out⟩
  by_cases he : er = 0
  · rw [decide_eq_true he, Bool.true_and]
    by_cases h5 : tk = 5
    · rw [decide_eq_true h5, Bool.true_or, Bool.true_and]
      exact walk _ (.inr (.inl ⟨he, h5, hq.symm⟩))
    · by_cases h4 : tk = 4
      · rw [decide_eq_true h4, Bool.or_true, Bool.true_and]
        exact walk _ (.inr (.inr (.inl ⟨he, h5, h4, hq.symm⟩)))
      · rw [decide_eq_false h5, decide_eq_false h4, Bool.or_false, Bool.false_and]
        exact walk _ (.inr (.inr (.inr ⟨he, h5, h4, rfl⟩)))
  · rw [decide_eq_false he, Bool.false_and]
    exact walk _ (.inl ⟨he, rfl⟩)
/-- A token, as a walk reads it. -/
theorem Red.tokAt {P : Nat} {src : ByteArray} {T : List Tok} {R : Nat → Prop} {s : PS} {w : World} (h : Red w P src T R s) (j : Nat) (hj : j < T.length) : ∃ b off cT, b ≠ P ∧ w.cell? ⟨P, 1, none⟩ = some (.slice (some ⟨b, off, none⟩) T.length cT) ∧ w.cell? ⟨b, off + j * 3, none⟩ = some (.int .i64 ((T.getD j default).k : Int)) ∧ w.cell? ⟨b, off + j * 3 + 1, none⟩ = some (.string (ofL (T.getD j default).x)) ∧ w.cell? ⟨b, off + j * 3 + 2, none⟩ = some (.int .i64 ((T.getD j default).p : Int)) := by
  obtain ⟨b, off, cT, hb, c1, hc⟩ := h.toks
  exact ⟨b, off, cT, hb, c1, hc j hj⟩
set_option maxRecDepth 100000 in
set_option maxHeartbeats 8000000 in
theorem rkind_any {P : Nat} {src : ByteArray} {T : List Tok} {R : Nat → Prop} {s : PS} {w : World} (h : Red w P src T R s) (k : Nat) : Calls Tryd.prog 29 #[.pointer (some ⟨P, 0, none⟩), .int .i64 (k : Int)] w fun e w' => e = .returned (.bool (kindR T k s)) ∧ Keeps (fun _ => False) w w' := by
  have H := Lib.hid h
  obtain ⟨b, off, cT, hbP, c1, hc⟩ := h.toks
  have sw := h.see
  have hi := h.hi
  have hle := h.ok.le
  obtain ⟨t0, t1, t2⟩ := hc s.i hi
  have hb := cell_ltk t0
  have hP := h.lo
  have c2 := sw.c2
  have c5 := sw.c5
  obtain ⟨i, hI⟩ : ∃ i, i = s.i := ⟨_, rfl⟩
  obtain ⟨n, hn⟩ : ∃ n, n = T.length := ⟨_, rfl⟩
  have hv : kindR T k s = (decide ((s.er : Int) = 0) && decide (((T.getD s.i default).k : Int) = (k : Int))) := by
    unfold kindR tokA
    congr 1
    · exact decide_eq_decide.2 (by omega)
    · exact decide_eq_decide.2 (by omega)
  rw [hv]
  rw [← hI] at c2 hi t0 t1 t2 ⊢
  rw [← hn] at c1 hi hle
  generalize ((T.getD i default).k : Int) = tk at t0 ⊢
  generalize (s.er : Int) = er at c5 ⊢
  generalize (k : Int) = kk
  have h0 : (0 : Int) ≤ (i : Int) := by omega
  have h1 : (i : Int) < (n : Int) := by omega
  clear hv hI hn hc H h sw t1 t2
  by_cases he : er = 0
  · subst he
    have ed : (decide ((0 : Int) = 0) && decide (tk = kk)) = (tk == kk) := by rw [decide_eq_true rfl, Bool.true_and]; rfl
    rw [ed]
    go_enter Tryd.func29, Tryd.ntmps29
    go_wp2_with fail
    go_quiet (fail)
    have kd := drew_keeps w nq
    generalize w.drewN nq = w1 at *
    clear c1 c2 c5 t0
    go_wp2_with fail
    go_ret
    exact ⟨rfl, kd⟩
  · have ed : (decide (er = 0) && decide (tk = kk)) = false := by rw [decide_eq_false he, Bool.false_and]
    have d := (show (er == 0) = false by simpa using he)
    rw [ed]
    go_enter Tryd.func29, Tryd.ntmps29
    go_wp2_with fail
    go_quiet (fail)
    have kd := drew_keeps w nq
    generalize w.drewN nq = w1 at *
    clear c1 c2 c5 t0
    go_wp2_with fail
    go_ret
    exact ⟨rfl, kd⟩
end Go.Proofs.YtgelggdgbmldiaaDoor
