/-
  Layer 2: the document's reader: put. Written by an AI agent.
  Layer 2: the document's reader: down, Type, typed, signs, next. Written by an AI agent.
  Layer 2: the document's reader: next. Written by an AI agent.
-/
import Derived.Test.YtgelggdgbmldiaaDoorMkax
namespace Go.Proofs.YtgelggdgbmldiaaDoor
open Go Go.RowKit Go.Shelf
set_option linter.unusedVariables false
set_option linter.unusedSimpArgs false
/-- What a node more makes of a reader in memory. -/
theorem RedX.add {w : World} {P : Nat} {src : ByteArray} {T : List Tok} {A : Option Addr} {cT : Nat} {R : Nat → Prop} {s : PS} {v : Value} {L : List NM} (h : RedX w P src T A cT R s v L) {w1 w5 : World} (k1 : Keeps (fun _ => False) w w1) (x : NM) (hx : RdI w1 x.a x.d.l) (X : Nat)
    (hX : 0 < x.d.l.length → ∃ off, x.a = some ⟨X, off, none⟩) (hR : ¬ R X) (hPX : P < X) {v5 : Value} (ho : w5.ownsRow 0 33 5 v5 (L.length + 1) (flatN L ++ x.cells)) (hg : w1.grownBy w5 v.ownBlock) (hb : v5.ownBlock = v.ownBlock ∨ v5.ownBlock = some w1.heap.size) :
    (w5.cell? ⟨P, 3, none⟩ = some v ∧ w5.frozen? ⟨P, 3, none⟩ = false) ∧
    ((w5.setCell ⟨P, 3, none⟩ v5).cell? ⟨P, 3, none⟩ = some v5 ∧ ∃ R', Red (w5.setCell ⟨P, 3, none⟩ v5) P src T R' { s with nd := s.nd ++ [x.d] } ∧ Keeps R w (w5.setCell ⟨P, 3, none⟩ v5) ∧ ∀ b, b < w.heap.size → R' b → R b ∨ b = X) := by
  have hP := h.lo
  have hs1 := k1.size
  -- the blocks
  have b5 : ∀ g, v5.ownBlock = some g → g = w1.heap.size ∨ v.ownBlock = some g := fun g hg => by
    rcases hb with e | e
    · exact .inr (e ▸ hg)
    · rw [e] at hg; cases hg; exact .inl rfl
  have keep5 : ∀ b, b < w1.heap.size → (∀ g, v.ownBlock = some g → b ≠ g) → w5.heap[b]? = w1.heap[b]? := fun b hb hn => hg.block b hb (fun e => hn b e.symm rfl)
  have cP : ∀ j, w5.cell? ⟨P, j, none⟩ = w.cell? ⟨P, j, none⟩ := fun j => (World.cell?_of_block (w := w1) (keep5 P (by omega) (fun g hg => fun e => (h.vb g hg).2 e.symm))).trans (k1.cell hP (fun h => h))
  have fP : ∀ j, w5.frozen? ⟨P, j, none⟩ = w.frozen? ⟨P, j, none⟩ := fun j => (World.frozen?_of_block (w := w1) (keep5 P (by omega) (fun g hg => fun e => (h.vb g hg).2 e.symm))).trans (k1.frozen hP (fun h => h))
  have c5 := (cP 3).trans h.c3
  have c5' : (w5.setCell ⟨P, 3, none⟩ v5).cell? ⟨P, 3, none⟩ = some v5 := cell_same w5 P 3 _ _ c5
  refine ⟨⟨c5, (fP 3).trans (h.fz 3)⟩, c5', ?_⟩
  have oth : ∀ j, 3 ≠ j → (w5.setCell ⟨P, 3, none⟩ v5).cell? ⟨P, j, none⟩ = w.cell? ⟨P, j, none⟩ := fun j e => (cell_other w5 3 j _ (.inl e)).trans (cP j)
  have kw6 : Keeps (fun b => b = P) w5 (w5.setCell ⟨P, 3, none⟩ v5) := (Keeps.refl (fun b => b = P) w5).setCell (p := ⟨P, 3, none⟩) (fun _ => rfl) _
  have k15 : Keeps (fun b => v.ownBlock = some b) w1 w5 := ⟨hg.os, hg.tape, hg.output, hg.size, fun b hb hn => hg.block b hb (fun e => hn e.symm)⟩
  have kall : Keeps (fun b => b = P ∨ v.ownBlock = some b) w (w5.setCell ⟨P, 3, none⟩ v5) :=
    ((k1.mono (T := fun b => b = P ∨ v.ownBlock = some b) (fun _ _ h => h.elim)).trans k15 (fun _ _ e => .inr e)).trans kw6 (fun _ _ e => .inl e)
  have sz5 : w1.heap.size ≤ w5.heap.size := hg.size
  have sz6 : (w5.setCell ⟨P, 3, none⟩ v5).heap.size = w5.heap.size := by simp
  have rdx : RdI w5 x.a x.d.l := hx.keep k15 (fun h0 b off e hv => by
    obtain ⟨off', e'⟩ := hX h0
    rw [e] at e'
    cases e'
    exact hR (h.vb X hv).1)
  refine ⟨fun b => R b ∨ (b = X ∧ 0 < x.d.l.length) ∨ v5.ownBlock = some b, ⟨A, cT, v5, L ++ [x], ?_⟩, kall.mono (fun b _ e => e.elim (fun e => e ▸ h.rp) (fun e => (h.vb b e).1)), fun b hb hr => ?_⟩
  · have lift : ∀ b, R b → b < w5.heap.size := fun b hb => Nat.lt_of_lt_of_le (h.lt b hb) (by omega)
    have nP : ∀ g, v5.ownBlock = some g → g ≠ P := fun g hg => by
      rcases b5 g hg with e | e
      · omega
      · exact (h.vb g e).2
    have nR : ∀ b, R b → b ≠ P → (∀ g, v.ownBlock = some g → b ≠ g) → ∀ g, v5.ownBlock = some g → b ≠ g := fun b hb _ hn g hg => by
      rcases b5 g hg with e | e
      · have := h.lt b hb; omega
      · exact hn g e
    have ltA : ∀ b, (R b ∨ (b = X ∧ 0 < x.d.l.length) ∨ v5.ownBlock = some b) → b < (w5.setCell ⟨P, 3, none⟩ v5).heap.size := fun b hb => by
      rw [sz6]
      rcases hb with hb | ⟨hb, h0⟩ | hb
      · exact lift b hb
      · obtain ⟨off, e⟩ := hX h0
        rw [hb]
        exact rdx.lt h0 e
      · exact (ho.lt b hb).2
    have ownA : (w5.setCell ⟨P, 3, none⟩ v5).ownsRow 0 33 5 v5 (L ++ [x]).length (flatN (L ++ [x])) := by
      rw [flatN_append, flatN_one, List.length_append]
      exact ownsRow_keep ho (fun g hg => kw6.block g (ho.lt g hg).2 (nP g hg))
    have lsA : ∀ y ∈ L ++ [x], RdI (w5.setCell ⟨P, 3, none⟩ v5) y.a y.d.l ∧ (0 < y.d.l.length → ∀ b off, y.a = some ⟨b, off, none⟩ → (R b ∨ (b = X ∧ 0 < x.d.l.length) ∨ v5.ownBlock = some b) ∧ b ≠ P ∧ ∀ g, v5.ownBlock = some g → b ≠ g) := fun y hy => by
      rcases List.mem_append.1 hy with hy | hy
      · exact ⟨(h.ls y hy).1.keep kall (fun h0 b off e hc => hc.elim ((h.ls y hy).2 h0 b off e).2.1 (fun hv => ((h.ls y hy).2 h0 b off e).2.2 b hv rfl)), fun h0 b off e => ⟨.inl ((h.ls y hy).2 h0 b off e).1, ((h.ls y hy).2 h0 b off e).2.1, nR b ((h.ls y hy).2 h0 b off e).1 ((h.ls y hy).2 h0 b off e).2.1 ((h.ls y hy).2 h0 b off e).2.2⟩⟩
      · rw [List.mem_singleton.1 hy]
        refine ⟨rdx.keep kw6 (fun h0 b off e hc => ?_), fun h0 b off e => ?_⟩
        · obtain ⟨off', e'⟩ := hX h0
          rw [e] at e'
          cases e'
          exact hR (hc ▸ h.rp)
        · obtain ⟨off', e'⟩ := hX h0
          rw [e] at e'
          cases e'
          refine ⟨.inr (.inl ⟨rfl, h0⟩), fun e => hR (e ▸ h.rp), fun g hg e2 => ?_⟩
          rcases b5 g hg with e3 | e3
          · have := hx.lt h0 e
            omega
          · exact hR (e2 ▸ (h.vb g e3).1)
    exact { c0 := (oth 0 (by omega)).trans h.c0, c1 := (oth 1 (by omega)).trans h.c1, c2 := (oth 2 (by omega)).trans h.c2, c3 := c5', c4 := (oth 4 (by omega)).trans h.c4, c5 := (oth 5 (by omega)).trans h.c5, c6 := (oth 6 (by omega)).trans h.c6, fz := fun j => (World.frozen?_setCell w5 _ _ _).trans ((fP j).trans (h.fz j)), lt := ltA, rp := .inl h.rp, tok := h.tok.keepR kall (fun _ b off e hc => hc.elim (h.tb b off e).2.1 (fun hv => (h.tb b off e).2.2 b hv rfl)), tb := fun b off e => ⟨.inl (h.tb b off e).1, (h.tb b off e).2.1, nR b (h.tb b off e).1 (h.tb b off e).2.1 (h.tb b off e).2.2⟩, own := ownA, vb := fun g hg => ⟨.inr (.inr hg), nP g hg⟩, nd := (by rw [List.map_append, h.nd]; rfl), ls := lsA, hi := h.hi, ok := h.ok }
  · rcases hr with hr | ⟨hr, _⟩ | hr
    · exact .inl hr
    · exact .inr hr
    · rcases b5 b hr with e | e
      · omega
      · exact .inl (h.vb b e).1
set_option maxRecDepth 100000 in
set_option maxHeartbeats 16000000 in
theorem rput_any {P : Nat} {src : ByteArray} {T : List Tok} {R : Nat → Prop} {s : PS} {w : World} (h : Red w P src T R s) (d : Nd) (a : Option Addr) (c : Nat) (l : List Int) (hx : RdI w a l) (X : Nat) (hX : 0 < l.length → ∃ off, a = some ⟨X, off, none⟩) (hR : ¬ R X) (hPX : P < X) (hnd : s.nd.length < 100000) :
    Calls Tryd.prog 98 #[.pointer (some ⟨P, 0, none⟩), .int .i64 d.k, .int .i64 d.ln, .int .i64 d.n, .string (ofL d.s), .slice a l.length c] w fun e w' => e = .returned (.int .i64 (s.nd.length : Int)) ∧ ∃ R', Red w' P src T R' { s with nd := s.nd ++ [{ d with l := l }] } ∧ Keeps R w w' ∧ ∀ b, b < w.heap.size → R' b → R b ∨ b = X := by
  obtain ⟨i0, hi, hz0, hz1, hz2⟩ := info_parts info_node
  obtain ⟨A, cT, v, L, h⟩ := h
  have H := Lib.hid h
  have hP := h.lo
  have c3 := h.c3
  have f3 := h.fz 3
  have hL : L.length = s.nd.length := by rw [← h.nd, List.length_map]
  obtain ⟨n, hn⟩ : ∃ n, n = L.length := ⟨_, rfl⟩
  rw [← hL, ← hn] at hnd ⊢
  have HN := Lib.hid hn
  have n1 : IntKind.i64.wrap (((n + 1 : Nat) : Int) - 1) = (n : Int) := by rw [show ((n + 1 : Nat) : Int) - 1 = (n : Int) by omega]; exact IntWalk.i64_in _ (by omega)
  obtain ⟨m, hm⟩ : ∃ m, m = l.length := ⟨_, rfl⟩
  rw [← hm]
  obtain ⟨dx, hdx⟩ : ∃ dx : Nd, dx = { d with l := l } := ⟨_, rfl⟩
  rw [← hdx]
  obtain ⟨x, hxx⟩ : ∃ x : NM, x = ⟨dx, a, c⟩ := ⟨_, rfl⟩
  have hxc : x.cells = [.int .i64 d.k, .int .i64 d.ln, .int .i64 d.n, .string (ofL d.s), .slice a m c] := by rw [hxx, hdx, hm]; rfl
  have XC := Lib.hid hxc
  have hADD : Hid (∀ w1 w5 v5, Keeps (fun _ => False) w w1 → w5.ownsRow 0 33 5 v5 (n + 1) (flatN L ++ x.cells) → w1.grownBy w5 v.ownBlock → (v5.ownBlock = v.ownBlock ∨ v5.ownBlock = some w1.heap.size) → (w5.cell? ⟨P, 3, none⟩ = some v ∧ w5.frozen? ⟨P, 3, none⟩ = false) ∧
      ((w5.setCell ⟨P, 3, none⟩ v5).cell? ⟨P, 3, none⟩ = some v5 ∧ ∃ R', Red (w5.setCell ⟨P, 3, none⟩ v5) P src T R' { s with nd := s.nd ++ [dx] } ∧ Keeps R w (w5.setCell ⟨P, 3, none⟩ v5) ∧ ∀ b, b < w.heap.size → R' b → R b ∨ b = X)) := Lib.hid fun w1 w5 v5 k1 ho hg hb => by
    have hr : RdI w1 x.a x.d.l := by rw [hxx, hdx]; exact hx.keep k1 (fun _ _ _ _ h => h)
    have := H.out.add k1 x hr X (by rw [hxx, hdx]; exact hX) hR hPX (by rw [← HN.out]; exact ho) hg hb
    rwa [show x.d = dx by rw [hxx]] at this
  have hOwn : Hid (∀ w1, Keeps (fun _ => False) w w1 → w1.ownsRow 0 33 5 v n (flatN L)) := Lib.hid fun w1 k => by
    rw [HN.out]
    exact (H.out.keepR k (fun _ _ h => h) (fun _ h => h.elim)).own
  obtain ⟨sx, hsx⟩ : ∃ sx, sx = ofL d.s := ⟨_, rfl⟩
  rw [← hsx] at XC ⊢
  obtain ⟨A0, c0', rfl⟩ := own_formk h.own
  rw [← hn] at c3 hADD hOwn
  clear hn hxx hxc hsx hx hX hR hL hdx hm h hPX
  go_enter Tryd.func98, Tryd.ntmps98
  go_upto_region 2 with (at_builtin; have K4 := Lib.hid (Keeps.one w (.cells #[.int .i64 d.k, .int .i64 d.ln, .int .i64 d.n, .string sx, .slice a m c] 33)); refine wpList_append_atk rfl (.tmp 17) (.tmp 24) 24 rfl 0 33 i0 _ 5 64 Tryd.underlying24 hi hz0 hz1 hz2 (by rfl) (by omega) (.slice A0 n c0') n (flatN L) (by rfl) (hOwn.out _ K4.out) ⟨w.heap.size, 0, none⟩ 1 1 x.cells (by rfl) (by rw [XC.out]; rfl) (by have e := XC.out; have hh := news5 (w := w) x 33; rw [e] at hh ⊢; exact hh) (NM.one x) (by omega) (by omega) (Nat.zero_le _) ?_; intro v5 w5 h5 g5 b5; obtain ⟨A5, c5', rfl⟩ := own_formk h5; have hm := hADD.out _ _ _ K4.out h5 g5 b5; have HM := Lib.hid hm.2.2; have e5 := hm.1.1; have g5' := hm.1.2; have e6 := hm.2.1; clear hm h5 g5 b5 K4 c3 f3)
  clear e5 g5'
  generalize w5.setCell ⟨P, 3, none⟩ (.slice A5 (n + 1) c5') = w6 at e6 HM ⊢
  go_wp2_with fail
  go_ret
  exact ⟨rfl, HM.out⟩
/-- The contract of a function that puts a node. -/
def PutC (P : Nat) (src : ByteArray) (T : List Tok) (f : Nat) (mm : Nd → List Int → PM Int) : Prop :=
  ∀ (k ln n : Int) (x : List UInt8) (l : List Int) (s s' : PS) (r : Int) (R : Nat → Prop) (w : World) (a : Option Addr) (c : Nat), mm ⟨k, ln, n, x, []⟩ l s = some (r, s') → Red w P src T R s → RdI w a l → NewRow P R a l →
    Calls Tryd.prog f #[.pointer (some ⟨P, 0, none⟩), .int .i64 k, .int .i64 ln, .int .i64 n, .string (ofL x), .slice a l.length c] w fun e w' => e = .returned (.int .i64 r) ∧ ∃ R', Red w' P src T R' s' ∧ Keeps R w w' ∧ ∀ b, b < w.heap.size → R' b → R b ∨ ∃ off, a = some ⟨b, off, none⟩
theorem putC (P : Nat) (src : ByteArray) (T : List Tok) : PutC P src T 98 nodeM := by
  intro k ln n x l s s' r R w a c hm hp hr hn
  obtain ⟨h1, rfl, rfl⟩ := node_out hm
  by_cases h0 : 0 < l.length
  · obtain ⟨X, off, e1, hX, hPX⟩ := hn h0
    refine (rput_any hp ⟨k, ln, n, x, []⟩ a c l hr X (fun _ => ⟨off, e1⟩) hX hPX h1).mono fun e w' ⟨h1, R', h2, h3, h4⟩ => ⟨h1, R', h2, h3, fun b hb hr => (h4 b hb hr).imp id fun e2 => ⟨off, by rw [e2]; exact e1⟩⟩
  · refine (rput_any hp ⟨k, ln, n, x, []⟩ a c l hr w.heap.size (fun h => absurd h h0) hp.new hp.lo h1).mono fun e w' ⟨h1, R', h2, h3, h4⟩ => ⟨h1, R', h2, h3, fun b hb hr => (h4 b hb hr).imp id fun e => by omega⟩
section
variable {P : Nat} {src : ByteArray} {T : List Tok} {f : Nat} {mm : Nd → List Int → PM Int} {R : Nat → Prop} {s s' : PS} {w : World} {r : Int}
theorem PutC.nil (h : PutC P src T f mm) (hp : Red w P src T R s) (k ln n : Int) (x : List UInt8) (hm : mm ⟨k, ln, n, x, []⟩ [] s = some (r, s')) :
    Calls Tryd.prog f #[.pointer (some ⟨P, 0, none⟩), .int .i64 k, .int .i64 ln, .int .i64 n, .string (ofL x), .slice none 0 0] w (PostR P src T R w (.int .i64 r) s') :=
  (h k ln n x [] s s' r R w none 0 hm hp (fun h => absurd h (by simp)) (fun h => absurd h (by simp))).mono fun e w' ⟨h1, R', h2, h3, h4⟩ => ⟨h1, R', h2, h3, fun b hb hr => (h4 b hb hr).elim id (fun ⟨off, e⟩ => by cases e)⟩
theorem PutC.fresh (h : PutC P src T f mm) (hp : Red w P src T R s) (k ln n : Int) (x : List UInt8) (l : List Int) (o : Obj) (m : Nat) (hl : m = l.length) (hr : RdI (w.alloc o) (some ⟨w.heap.size, 0, none⟩) l) (hm : mm ⟨k, ln, n, x, []⟩ l s = some (r, s')) :
    Calls Tryd.prog f #[.pointer (some ⟨P, 0, none⟩), .int .i64 k, .int .i64 ln, .int .i64 n, .string (ofL x), .slice (some ⟨w.heap.size, 0, none⟩) m m] (w.alloc o) (PostR P src T R w (.int .i64 r) s') := by
  subst hl
  refine (h k ln n x l s s' r R (w.alloc o) (some ⟨w.heap.size, 0, none⟩) l.length hm (hp.keep (Keeps.one w o)) hr (fun _ => ⟨w.heap.size, 0, rfl, hp.new, hp.lo⟩)).mono fun e w' ⟨h1, R', h2, h3, h4⟩ => ⟨h1, R', h2, ?_, fun b hb hr => ?_⟩
  · exact ((Keeps.one w o).mono (T := R) (fun _ _ h => h.elim)).trans h3 (fun _ _ h => h)
  · rcases h4 b (by rw [World.size_alloc]; omega) hr with h5 | ⟨off, e⟩
    · exact h5
    · cases e
      exact absurd hb (Nat.lt_irrefl _)
theorem PutC.one (h : PutC P src T f mm) (hp : Red w P src T R s) (k ln n : Int) (x : List UInt8) (a : Int) (hm : mm ⟨k, ln, n, x, []⟩ [a] s = some (r, s')) :
    Calls Tryd.prog f #[.pointer (some ⟨P, 0, none⟩), .int .i64 k, .int .i64 ln, .int .i64 n, .string (ofL x), .slice (some ⟨w.heap.size, 0, none⟩) 1 1] (w.alloc (.cells #[.int .i64 a] 3)) (PostR P src T R w (.int .i64 r) s') :=
  h.fresh hp k ln n x [a] _ 1 rfl (fun _ => ⟨w.heap.size, 0, rfl, fun j hj => by
    have : j = 0 := by simp at hj; omega
    subst this
    exact World.cell?_alloc_mark w #[.int .i64 a] 3 (0, 0) 0⟩) hm
theorem PutC.two (h : PutC P src T f mm) (hp : Red w P src T R s) (k ln n : Int) (x : List UInt8) (a b : Int) (hm : mm ⟨k, ln, n, x, []⟩ [a, b] s = some (r, s')) :
    Calls Tryd.prog f #[.pointer (some ⟨P, 0, none⟩), .int .i64 k, .int .i64 ln, .int .i64 n, .string (ofL x), .slice (some ⟨w.heap.size, 0, none⟩) 2 2] (w.alloc (.cells #[.int .i64 a, .int .i64 b] 3)) (PostR P src T R w (.int .i64 r) s') :=
  h.fresh hp k ln n x [a, b] _ 2 rfl (fun _ => ⟨w.heap.size, 0, rfl, fun j hj => by
    rw [Nat.zero_add, World.cell?_alloc_mark w #[.int .i64 a, .int .i64 b] 3 (0, 0) j]
    match j, hj with
    | 0, _ => rfl
    | 1, _ => rfl⟩) hm
/-- A row that the caller made since its beginning, at w0. -/
theorem PutC.row (h : PutC P src T f mm) (hp : Red w P src T R s) (k ln n : Int) (x : List UInt8) (l : List Int) {A : Option Addr} {m c : Nat} (hl : m = l.length) (ho : w.ownsRow 0 3 1 (.slice A m c) m (valI l)) {R0 : Nat → Prop} {w0 : World} (hf : Fr R0 w0 R w) (hP0 : P < w0.heap.size)
    (hb : ∀ g, (Value.slice A m c).ownBlock = some g → ¬ R g ∧ w0.heap.size ≤ g) (hm : mm ⟨k, ln, n, x, []⟩ l s = some (r, s')) :
    Calls Tryd.prog f #[.pointer (some ⟨P, 0, none⟩), .int .i64 k, .int .i64 ln, .int .i64 n, .string (ofL x), .slice A m c] w (PostR P src T R0 w0 (.int .i64 r) s') := by
  have hr := own_rdI ho hl
  subst hl
  have form : 0 < l.length → ∃ g, A = some ⟨g, 0, none⟩ ∧ (Value.slice A l.length c).ownBlock = some g := fun h0 => by
    rcases ho.2 with ⟨e1, h1⟩ | ⟨g, cap, cur, e1, _⟩
    · omega
    · have e2 : A = some ⟨g, 0, none⟩ := by injection e1
      exact ⟨g, e2, by rw [e2]; rfl⟩
  refine (h k ln n x l s s' r R w A c hm hp hr (fun h0 => ?_)).mono fun e w' ⟨h1, R', h2, h3, h4⟩ => ⟨h1, R', h2, hf.1.trans h3 (fun x hx hr => hf.2 x hx hr), fun b hb2 hr2 => ?_⟩
  · obtain ⟨g, e, eb⟩ := form h0
    exact ⟨g, 0, e, (hb g eb).1, Nat.lt_of_lt_of_le hP0 (hb g eb).2⟩
  · rcases h4 b (Nat.lt_of_lt_of_le hb2 hf.1.size) hr2 with h5 | ⟨off, e⟩
    · exact hf.2 b hb2 h5
    · exfalso
      rcases ho.2 with ⟨e1, h1⟩ | ⟨g, cap, cur, e1, _⟩
      · have e2 : A = none := by injection e1
        rw [e2] at e
        cases e
      · have e2 : A = some ⟨g, 0, none⟩ := by injection e1
        have hg := (hb g (by rw [e2]; rfl)).2
        rw [e2] at e
        cases e
        omega
end
end Go.Proofs.YtgelggdgbmldiaaDoor

namespace Go.Proofs.YtgelggdgbmldiaaDoor
open Go Go.RowKit Go.Shelf
set_option linter.unusedVariables false
set_option linter.unusedSimpArgs false
set_option maxRecDepth 100000 in
set_option maxHeartbeats 8000000 in
theorem rtype_any (x : ByteArray) (w : World) : Calls Tryd.prog 95 #[.string x] w fun e w' => e = .returned (.int .i64 (typeN x.data.toList)) ∧ w' = w := by
  have key : ∀ (b1 b2 b3 b4 : Bool), b1 = decide (x.data.toList = [105, 110, 116]) → b2 = decide (x.data.toList = [98, 111, 111, 108]) → b3 = decide (x.data.toList = [116, 101, 120, 116]) → b4 = decide (x.data.toList = [108, 105, 115, 116]) → typeN x.data.toList = (if b1 then 1 else if b2 then 2 else if b3 then 3 else if b4 then 4 else 0) := by
    rintro _ _ _ _ rfl rfl rfl rfl
    unfold typeN
    simp only [decide_eq_true_eq]
  obtain ⟨b1, e1⟩ : ∃ b, b = decide (x.data.toList = [105, 110, 116]) := ⟨_, rfl⟩
  obtain ⟨b2, e2⟩ : ∃ b, b = decide (x.data.toList = [98, 111, 111, 108]) := ⟨_, rfl⟩
  obtain ⟨b3, e3⟩ : ∃ b, b = decide (x.data.toList = [116, 101, 120, 116]) := ⟨_, rfl⟩
  obtain ⟨b4, e4⟩ : ∃ b, b = decide (x.data.toList = [108, 105, 115, 116]) := ⟨_, rfl⟩
  rw [key b1 b2 b3 b4 e1 e2 e3 e4]
  have q1 : (x.toList == [105, 110, 116]) = b1 := by rw [e1]; exact word_beq x _
  have q2 : (x.toList == [98, 111, 111, 108]) = b2 := by rw [e2]; exact word_beq x _
  have q3 : (x.toList == [116, 101, 120, 116]) = b3 := by rw [e3]; exact word_beq x _
  have q4 : (x.toList == [108, 105, 115, 116]) = b4 := by rw [e4]; exact word_beq x _
  clear key e1 e2 e3 e4
  cases b1 with
  | true =>
    go_enter Tryd.func95, Tryd.ntmps95
    go_wp2
    go_ret
    exact ⟨rfl, rfl⟩
  | false =>
    cases b2 with
    | true =>
      go_enter Tryd.func95, Tryd.ntmps95
      go_wp2
      go_ret
      exact ⟨rfl, rfl⟩
    | false =>
      cases b3 with
      | true =>
        go_enter Tryd.func95, Tryd.ntmps95
        go_wp2
        go_ret
        exact ⟨rfl, rfl⟩
      | false =>
        cases b4 with
        | true =>
          go_enter Tryd.func95, Tryd.ntmps95
          go_wp2
          go_ret
          exact ⟨rfl, rfl⟩
        | false =>
          go_enter Tryd.func95, Tryd.ntmps95
          go_wp2
          go_ret
          exact ⟨rfl, rfl⟩
set_option maxRecDepth 100000 in
set_option maxHeartbeats 8000000 in
theorem rdown_any {P : Nat} {src : ByteArray} {T : List Tok} {R : Nat → Prop} {s : PS} {w : World} {s1 : PS} (h : Red w P src T R s) {u : Unit} (hm : downR T s = some (u, s1)) : Calls Tryd.prog 96 #[.pointer (some ⟨P, 0, none⟩)] w (PostR P src T R w (.tuple #[]) s1) := by
  have H := Lib.hid h
  unfold downR at hm
  obtain ⟨s2, e2, hm⟩ := mod_out hm
  obtain ⟨hd, e1⟩ := deep_out hm
  have E1 := Lib.hid e1
  have c4 := h.see.c4
  clear hm e1 h
  by_cases h16 : 16 ≤ s.dp
  · have d16 : decide (16 ≤ s.dp) = true := decide_eq_true h16
    have FC := Lib.hid (fails_any H.out 21)
    have e3 : s2 = failR T 21 s := by rw [e2]; exact if_pos h16
    rw [← e3] at FC
    generalize s.dp = dq at c4 h16 d16
    clear e2 e3
    go_enter Tryd.func96, Tryd.ntmps96
    go_wp2_with fail
    refine FC.out.mono ?_
    rintro e w2 ⟨rfl, R1, hp, hf⟩
    have HP2 := Lib.hid hp
    have HF2 := Lib.hid hf
    clear FC hp hf c4 h16 d16
    have hs := HP2.out.see
    have c4 := hs.c4
    have f4 := hs.fz 4
    have hw := IntWalk.i64_in (s2.dp + 1) (by omega)
    have hset := HP2.out.setDp (s2.dp + 1)
    have HF : Hid (PostR P src T R w (.tuple #[]) s1 (.returned (.tuple #[])) (w2.setCell ⟨P, 4, none⟩ (.int .i64 (s2.dp + 1)))) := Lib.hid ⟨rfl, _, by rw [E1.out]; exact hset.1, HF2.out.trans hset.2⟩
    generalize s2.dp = dp at c4 hw HF hd
    clear hs hset HP2 HF2 E1 hd H
    go_wp2_with fail
    exact bodyPost_end (v := .tuple #[]) (by simp [results, Tryd.results96, go_sem]) rfl HF.out
  · have d16 : decide (16 ≤ s.dp) = false := decide_eq_false h16
    have e3 : s2 = s := by rw [e2]; exact if_neg h16
    subst e3
    have f4 := H.out.see.fz 4
    have hw := IntWalk.i64_in (s2.dp + 1) (by omega)
    have hset := H.out.setDp (s2.dp + 1)
    have HF : Hid (PostR P src T R w (.tuple #[]) s1 (.returned (.tuple #[])) (w.setCell ⟨P, 4, none⟩ (.int .i64 (s2.dp + 1)))) := Lib.hid ⟨rfl, _, by rw [E1.out]; exact hset.1, hset.2⟩
    generalize s2.dp = dp at c4 hw HF hd h16 d16
    clear hset E1 hd H e2
    go_enter Tryd.func96, Tryd.ntmps96
    go_wp2_with fail
    exact bodyPost_end (v := .tuple #[]) (by simp [results, Tryd.results96, go_sem]) rfl HF.out
theorem go_out {T : List Tok} {s s' : PS} {u : Unit} (h : goR T s = some (u, s')) : s.i + 1 < T.length ∧ s' = stepR s := by
  unfold goR at h
  split at h
  · rename_i hl
    injection h with h
    injection h with h1 h2
    exact ⟨hl, h2.symm⟩
  · cases h
/-- The contract of a function of the reader's that tells a number. -/
def RexC (P : Nat) (src : ByteArray) (T : List Tok) (f : Nat) (m : PM Int) : Prop :=
  ∀ (s : PS) (a : Int) (s1 : PS) (R : Nat → Prop) (w : World), m s = some (a, s1) → Red w P src T R s → Calls Tryd.prog f #[.pointer (some ⟨P, 0, none⟩)] w (PostR P src T R w (.int .i64 a) s1)
theorem rline_q {P : Nat} {src : ByteArray} {T : List Tok} {R : Nat → Prop} {s : PS} {w : World} (hsz : src.size ≤ 1000) (h : Red w P src T R s) {ln : Int} (hl : ln = lineS src.data.toList T s) : Calls Tryd.prog 58 #[.pointer (some ⟨P, 0, none⟩)] w fun e w' => e = .returned (.int .i64 ln) ∧ Keeps (fun _ => False) w w' := by
  rw [hl]
  exact rline_at hsz h
theorem ris_q {P : Nat} {src : ByteArray} {T : List Tok} {R : Nat → Prop} {s : PS} {w : World} (h : Red w P src T R s) (x : ByteArray) {b : Bool} (hb : b = isR T x.data.toList s) : Calls Tryd.prog 61 #[.pointer (some ⟨P, 0, none⟩), .string x] w fun e w' => e = .returned (.bool b) ∧ Keeps (fun _ => False) w w' := by
  rw [hb]
  exact ris_any h x
theorem rcalls_q {P : Nat} {src : ByteArray} {T : List Tok} {R : Nat → Prop} {s : PS} {w : World} (h : Red w P src T R s) {b : Bool} (hb : b = callsR T s) : Calls Tryd.prog 132 #[.pointer (some ⟨P, 0, none⟩)] w fun e w' => e = .returned (.bool b) ∧ Keeps (fun _ => False) w w' := by
  rw [hb]
  exact rcalls_any h
theorem rwd_q {P : Nat} {src : ByteArray} {T : List Tok} {R : Nat → Prop} {s : PS} {w : World} (h : Red w P src T R s) {x : List UInt8} (hx : x = wordR T s) : Calls Tryd.prog 94 #[.pointer (some ⟨P, 0, none⟩)] w fun e w' => e = .returned (.string (ofL x)) ∧ Keeps (fun _ => False) w w' := by
  rw [hx]
  exact rwd_any h
theorem must_q {P : Nat} {src : ByteArray} {T : List Tok} {R : Nat → Prop} {s : PS} {w : World} {s1 : PS} (h : Red w P src T R s) (x : ByteArray) (e : s1 = mustR T x.data.toList s) : Calls Tryd.prog 59 #[.pointer (some ⟨P, 0, none⟩), .string x] w (PostR P src T R w (.tuple #[]) s1) := by
  rw [e]
  exact must_any h x
theorem fails_q {P : Nat} {src : ByteArray} {T : List Tok} {R : Nat → Prop} {s : PS} {w : World} {s1 : PS} (h : Red w P src T R s) (k : Nat) (e : s1 = failR T k s) : Calls Tryd.prog 93 #[.pointer (some ⟨P, 0, none⟩), .int .i64 (k : Int)] w (PostR P src T R w (.tuple #[]) s1) := by
  rw [e]
  exact fails_any h k
theorem rname_q {P : Nat} {src : ByteArray} {T : List Tok} {R : Nat → Prop} {s : PS} {w : World} {s1 : PS} {x : List UInt8} (h : Red w P src T R s) (e : s1 = wnameR T s) (ex : x = wnameX T s) : Calls Tryd.prog 60 #[.pointer (some ⟨P, 0, none⟩)] w (PostR P src T R w (.string (ofL x)) s1) := by
  rw [e, ex]
  exact rname_any h
theorem rtype_q (x : List UInt8) (w : World) {t : Int} (ht : t = typeN x) : Calls Tryd.prog 95 #[.string (ofL x)] w fun e w' => e = .returned (.int .i64 t) ∧ Keeps (fun _ => False) w w' := by
  rw [ht]
  refine (rtype_any (ofL x) w).mono fun e w' ⟨h1, h2⟩ => ⟨by rw [h1, ofL_list], by rw [h2]; exact Keeps.refl _ _⟩
def SgP (w : World) (B : Nat) (l : List (List UInt8)) : Prop := B < w.heap.size ∧ ∀ j, j < l.length → w.cell? ⟨B, j, none⟩ = some (.string (ofL (l.getD j [])))
theorem SgP.keep {w w' : World} {B : Nat} {l : List (List UInt8)} (h : SgP w B l) (k : Keeps (fun _ => False) w w') : SgP w' B l :=
  ⟨Nat.lt_of_lt_of_le h.1 k.size, fun j hj => (k.cell h.1 (fun h => h)).trans (h.2 j hj)⟩
theorem signs0_any (w : World) : Calls Tryd.prog 161 #[.int .i64 0] w fun e w' => ∃ B, e = .returned (.slice (some ⟨B, 0, none⟩) (signsL 0).length (signsL 0).length) ∧ SgP w' B (signsL 0) ∧ Keeps (fun _ => False) w w' := by
  have kz := Keeps.one w (.cells #[.string { data := #[124, 124] }] 9)
  have HS : Hid (SgP (w.alloc (.cells #[.string { data := #[124, 124] }] 9)) w.heap.size (signsL 0)) := Lib.hid ⟨by simp, fun j hj => by
    rw [World.cell?_alloc_mark w #[.string { data := #[124, 124] }] 9 (0, 0) j]
    match j, hj with
    | 0, _ => rfl⟩
  have K := Lib.hid kz
  clear kz
  go_enter Tryd.func161, Tryd.ntmps161
  go_wp2_with fail
  go_ret
  exact ⟨_, rfl, HS.out, K.out⟩
theorem signs1_any (w : World) : Calls Tryd.prog 161 #[.int .i64 1] w fun e w' => ∃ B, e = .returned (.slice (some ⟨B, 0, none⟩) (signsL 1).length (signsL 1).length) ∧ SgP w' B (signsL 1) ∧ Keeps (fun _ => False) w w' := by
  have kz := Keeps.one w (.cells #[.string { data := #[38, 38] }] 9)
  have HS : Hid (SgP (w.alloc (.cells #[.string { data := #[38, 38] }] 9)) w.heap.size (signsL 1)) := Lib.hid ⟨by simp, fun j hj => by
    rw [World.cell?_alloc_mark w #[.string { data := #[38, 38] }] 9 (0, 0) j]
    match j, hj with
    | 0, _ => rfl⟩
  have K := Lib.hid kz
  clear kz
  go_enter Tryd.func161, Tryd.ntmps161
  go_wp2_with fail
  go_ret
  exact ⟨_, rfl, HS.out, K.out⟩
theorem signs2_any (w : World) : Calls Tryd.prog 161 #[.int .i64 2] w fun e w' => ∃ B, e = .returned (.slice (some ⟨B, 0, none⟩) (signsL 2).length (signsL 2).length) ∧ SgP w' B (signsL 2) ∧ Keeps (fun _ => False) w w' := by
  have kz := Keeps.one w (.cells #[.string { data := #[60] }, .string { data := #[60, 61] }, .string { data := #[61, 61] }, .string { data := #[33, 61] }] 9)
  have HS : Hid (SgP (w.alloc (.cells #[.string { data := #[60] }, .string { data := #[60, 61] }, .string { data := #[61, 61] }, .string { data := #[33, 61] }] 9)) w.heap.size (signsL 2)) := Lib.hid ⟨by simp, fun j hj => by
    rw [World.cell?_alloc_mark w #[.string { data := #[60] }, .string { data := #[60, 61] }, .string { data := #[61, 61] }, .string { data := #[33, 61] }] 9 (0, 0) j]
    match j, hj with
    | 0, _ => rfl
    | 1, _ => rfl
    | 2, _ => rfl
    | 3, _ => rfl⟩
  have K := Lib.hid kz
  clear kz
  go_enter Tryd.func161, Tryd.ntmps161
  go_wp2_with fail
  go_ret
  exact ⟨_, rfl, HS.out, K.out⟩
theorem signs3_any (w : World) : Calls Tryd.prog 161 #[.int .i64 3] w fun e w' => ∃ B, e = .returned (.slice (some ⟨B, 0, none⟩) (signsL 3).length (signsL 3).length) ∧ SgP w' B (signsL 3) ∧ Keeps (fun _ => False) w w' := by
  have kz := Keeps.one w (.cells #[.string { data := #[43] }, .string { data := #[45] }] 9)
  have HS : Hid (SgP (w.alloc (.cells #[.string { data := #[43] }, .string { data := #[45] }] 9)) w.heap.size (signsL 3)) := Lib.hid ⟨by simp, fun j hj => by
    rw [World.cell?_alloc_mark w #[.string { data := #[43] }, .string { data := #[45] }] 9 (0, 0) j]
    match j, hj with
    | 0, _ => rfl
    | 1, _ => rfl⟩
  have K := Lib.hid kz
  clear kz
  go_enter Tryd.func161, Tryd.ntmps161
  go_wp2_with fail
  go_ret
  exact ⟨_, rfl, HS.out, K.out⟩
theorem signs4_any (w : World) : Calls Tryd.prog 161 #[.int .i64 4] w fun e w' => ∃ B, e = .returned (.slice (some ⟨B, 0, none⟩) (signsL 4).length (signsL 4).length) ∧ SgP w' B (signsL 4) ∧ Keeps (fun _ => False) w w' := by
  have kz := Keeps.one w (.cells #[.string { data := #[42] }, .string { data := #[47] }, .string { data := #[37] }] 9)
  have HS : Hid (SgP (w.alloc (.cells #[.string { data := #[42] }, .string { data := #[47] }, .string { data := #[37] }] 9)) w.heap.size (signsL 4)) := Lib.hid ⟨by simp, fun j hj => by
    rw [World.cell?_alloc_mark w #[.string { data := #[42] }, .string { data := #[47] }, .string { data := #[37] }] 9 (0, 0) j]
    match j, hj with
    | 0, _ => rfl
    | 1, _ => rfl
    | 2, _ => rfl⟩
  have K := Lib.hid kz
  clear kz
  go_enter Tryd.func161, Tryd.ntmps161
  go_wp2_with fail
  go_ret
  exact ⟨_, rfl, HS.out, K.out⟩
end Go.Proofs.YtgelggdgbmldiaaDoor

namespace Go.Proofs.YtgelggdgbmldiaaDoor
open Go Go.RowKit Go.Shelf
set_option linter.unusedVariables false
set_option linter.unusedSimpArgs false
theorem rsigns_any (lv : Nat) (hlv : lv ≤ 4) (w : World) : Calls Tryd.prog 161 #[.int .i64 (lv : Int)] w fun e w' => ∃ B, e = .returned (.slice (some ⟨B, 0, none⟩) (signsL lv).length (signsL lv).length) ∧ SgP w' B (signsL lv) ∧ Keeps (fun _ => False) w w' := by
  match lv, hlv with
  | 0, _ => exact signs0_any w
  | 1, _ => exact signs1_any w
  | 2, _ => exact signs2_any w
  | 3, _ => exact signs3_any w
  | 4, _ => exact signs4_any w
theorem nextR_drop {T : List Tok} {l : List (List UInt8)} {s : PS} {i : Nat} (hi : i < l.length) : nextR T (l.drop i) s = if isR T (l.getD i []) s then l.getD i [] else nextR T (l.drop (i + 1)) s := by
  have e : l.drop i = l.getD i [] :: l.drop (i + 1) := by
    rw [List.drop_eq_getElem_cons hi, List.getD, List.getElem?_eq_getElem hi]
    rfl
  unfold nextR
  rw [e, List.filter_cons]
  by_cases hb : isR T (l.getD i []) s = true
  · rw [if_pos hb, if_pos hb]
    rfl
  · rw [if_neg hb, if_neg hb]
set_option maxRecDepth 100000 in
set_option maxHeartbeats 8000000 in
theorem rnext_any {P : Nat} {src : ByteArray} {T : List Tok} {R : Nat → Prop} {s : PS} {w : World} (h : Red w P src T R s) (lv : Nat) (hlv : lv ≤ 4) {x : List UInt8} (hx : x = nextR T (signsL lv) s) : Calls Tryd.prog 149 #[.pointer (some ⟨P, 0, none⟩), .int .i64 (lv : Int)] w fun e w' => e = .returned (.string (ofL x)) ∧ Keeps (fun _ => False) w w' := by
  have H := Lib.hid h
  have SC := Lib.hid (rsigns_any lv hlv w)
  have hlen : (signsL lv).length ≤ 4 := by match lv, hlv with | 0, _ => decide | 1, _ => decide | 2, _ => decide | 3, _ => decide | 4, _ => decide
  have hx0 : nextR T ((signsL lv).drop 0) s = x := by rw [List.drop_zero]; exact hx.symm
  generalize signsL lv = l at *
  obtain ⟨n, hn⟩ : ∃ n, n = l.length := ⟨_, rfl⟩
  rw [← hn] at SC hlen
  have HN := Lib.hid hn
  clear hn hx h
  go_enter Tryd.func149, Tryd.ntmps149
  go_wp2_with fail
  refine SC.out.mono ?_
  rintro e w1 ⟨B, rfl, hS, k1⟩
  clear SC
  go_wp2_with fail
  go_loopg [6, 7] n (fun k s6 s7 wr => ∃ i : Nat, s6 = .int .i64 (i : Int) ∧ i + k = n ∧ nextR T (l.drop i) s = x ∧ SgP wr B l ∧ Keeps (fun _ => False) w wr)
  case atStart => exact ⟨0, rfl, by omega, hx0, hS, k1⟩
  case round =>
    obtain ⟨i, rfl, hik, hx, hS, hk⟩ := hrel
    clear hx0 k1
    have i1 : IntKind.i64.wrap ((i : Int) + 1) = ((i + 1 : Nat) : Int) := by rw [show ((i + 1 : Nat) : Int) = (i : Int) + 1 by omega]; exact IntWalk.i64_in _ (by omega)
    have h0 : (0 : Int) ≤ (i : Int) := by omega
    cases gk with
    | zero =>
      have hnl : ¬ (i : Int) < (n : Int) := by omega
      have hd : decide ((i : Int) < (n : Int)) = false := decide_eq_false hnl
      have HE : Hid (x = []) := Lib.hid (by rw [← hx, List.drop_eq_nil_of_le (by rw [← HN.out]; omega)]; rfl)
      have K := Lib.hid hk
      clear hx hS hk hik
      go_wp2_with fail
      go_ret
      exact ⟨by rw [HE.out]; rfl, K.out⟩
    | succ k =>
      have h1 : (i : Int) < (n : Int) := by omega
      have hd : decide ((i : Int) < (n : Int)) = true := decide_eq_true h1
      have hil : i < l.length := by rw [← HN.out]; omega
      have hc := hS.2 i hil
      rw [nextR_drop hil] at hx
      have HX := Lib.hid hx
      have K := Lib.hid hk
      have HS := Lib.hid hS
      have HIK := Lib.hid hik
      obtain ⟨b, hb⟩ : ∃ b, b = isR T (l.getD i []) s := ⟨_, rfl⟩
      have IC := Lib.hid (ris_q (H.out.keep hk) (ofL (l.getD i [])) (b := b) (by rw [ofL_list]; exact hb))
      have HB := Lib.hid hb
      have Kall := Lib.hid (fun w3 (k3 : Keeps (fun _ => False) wr w3) => hk.trans k3 (fun _ _ h => h))
      generalize hg : l.getD i [] = gx at *
      clear hx hk hb hS hg hik
      cases b with
      | true =>
        have hgx : gx = x := by have := HX.out; rw [if_pos HB.out.symm] at this; exact this
        have HGX := Lib.hid hgx
        clear hgx
        go_upto_region 5 with fail
        go_wp2_with fail
        refine IC.out.mono ?_
        rintro e w3 ⟨rfl, k3⟩
        have hc := (k3.cell (cell_ltk hc) (fun h => h)).trans hc
        clear IC
        go_wp2_with fail
        go_ret
        exact ⟨by rw [← HGX.out]; rfl, Kall.out w3 k3⟩
      | false =>
        have hgx : nextR T (l.drop (i + 1)) s = x := by have := HX.out; rw [if_neg (by rw [← HB.out]; decide)] at this; exact this
        have HGX := Lib.hid hgx
        clear hgx
        go_upto_region 5 with fail
        go_wp2_with fail
        refine IC.out.mono ?_
        rintro e w3 ⟨rfl, k3⟩
        clear IC hc
        go_wp2_with fail
        go_roundg k
        case measure => omega
        case rel => exact ⟨i + 1, rfl, by have := HIK.out; omega, HGX.out, HS.out.keep k3, Kall.out w3 k3⟩
end Go.Proofs.YtgelggdgbmldiaaDoor
