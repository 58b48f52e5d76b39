/-
 Layer 2: a node is put. Written by an AI agent.
 Layer 2: open, shut, calls, Type; what serves the parser's walks. Written by an AI agent.
-/
import Derived.Deep.RegionHeld
import Derived.Test.YtbhpnioggpgbhaaGreatDoorMcaj
namespace Go.Proofs.YtbhpnioggpgbhaaGreatDoor
open Go Go.RowKit Go.Shelf
set_option linter.unusedVariables false
set_option linter.unusedSimpArgs false
theorem step_append_atk {P : Program} {ops : Array Oper} {o : Oper} {a : Act} {w : World} {K : Act → World → Prop} {Q : Exit → Act → World → Prop} {E : Prop} (hgd : o.guard = none) (s x : Operand) (t : TypeId)
  (ho : o.op = .call { callee := .builtin .append, args := #[s, x], argTypes := #[t, t] })
  (base : Nat) (e : TypeId) (i : TypeInfo) (z : Value) (size bytes : Nat) (ht : P.underlying t = some (.slice e)) (hi : P.info? e = some i) (hz : i.zero = some z)
  (hsize : i.size = size) (hby : i.bytes = bytes) (hzs : z.cells.size = size) (hsz : 0 < size)
  (v : Value) (n : Nat) (xs : List Value) (hs : a.eval s = v) (hown : w.ownsRow base e size v n xs)
  (ad : Addr) (m c : Nat) (news : List Value) (hx : a.eval x = .slice (some ad) m c) (hl : news.length = m * size) (hnews : ∀ j u, news[j]? = some u → w.cell? (ad.add j) = some u) (h1 : ∀ u ∈ news, u.oneCell' = true)
  (h63 : n + m ≤ 1000000) (hby2 : bytes ≤ 64) (hbase : base ≤ w.heap.size)
  (h : ∀ v' w', w'.ownsRow base e size v' (n + m) (xs ++ news) → w.grownBy w' v.ownBlock → (v'.ownBlock = v.ownBlock ∨ v'.ownBlock = some w.heap.size) → K (a.put o.dst v') w') :
  if Region.wanted o (yielded ops a.tmps) = true then Oper.wp P o a w K Q else E := by
 have hw : Region.wanted o (yielded ops a.tmps) = true := by simp [Region.wanted, hgd]
 rw [if_pos hw]
 have hb : (n + m) * bytes ≤ 140737488355328 := Nat.le_trans (Nat.mul_le_mul h63 hby2) (by omega)
 obtain ⟨v', w', hrun, q1, q2, q3⟩ := run_append_atk (P := P) w base t o.type e i z size bytes ht hi hz hsize hby hzs hsz v n xs hown ad m c news hl hnews h1 (by unfold maxLen; omega) hb hbase
 unfold Oper.wp execOp
 simp only [ho, resolve, invoke, builtin, Sem.run_bind, Sem.run_pure, Result.andThen_ok, List.map_toArray, List.map_cons, List.map_nil, hs, hx, hrun]
 exact h v' w' q1 q2 q3
theorem info_node : (Tryz.prog.info? 41).map (fun i => (i.zero, i.size, i.bytes)) = some (some (.agg #[.int .i64 0, .int .i64 0, .int .i64 0, .string ⟨#[]⟩, .slice none 0 0]), 5, 64) := by kernel_rfl
theorem news5 {w : World} (x : NM) (t : TypeId) : ∀ j u, x.cells[j]? = some u → (w.alloc (.cells x.cells.toArray t)).cell? ((⟨w.heap.size, 0, none⟩ : Addr).add j) = some u := by
 intro j u h
 have e : (⟨w.heap.size, 0, none⟩ : Addr).add j = ⟨w.heap.size, j, none⟩ := by unfold Addr.add; split <;> simp_all
 rw [e, World.cell?_alloc_mark]
 simpa using h
/-- What a node more makes of a parser in memory. -/
theorem ParX.add {w : World} {P : Nat} {src : ByteArray} {T : List Tok} {A : Option Addr} {cT : Nat} {R : Nat → Prop} {s : PS} {v : Value} {L : List NM} (h : ParX w P src T A cT R s v L) {w1 w5 : World} (k1 : Keeps (fun _ => False) w w1) (x : NM) (hcap : x.d.l.length ≤ x.c) (hx : RdI w1 x.a x.d.l) (X : Nat)
  (hX : 0 < x.d.l.length → ∃ off, x.a = some ⟨X, off, none⟩) (hR : ¬ R X) (hPX : P < X) {v5 : Value} (ho : w5.ownsRow 0 41 5 v5 (L.length + 1) (flatN L ++ x.cells)) (hg : w1.grownBy w5 v.ownBlock) (hb : v5.ownBlock = v.ownBlock ∨ v5.ownBlock = some w1.heap.size) :
  (w5.cell? ⟨P, 5, none⟩ = some v ∧ w5.frozen? ⟨P, 5, none⟩ = false) ∧
  ((w5.setCell ⟨P, 5, none⟩ v5).cell? ⟨P, 5, none⟩ = some v5 ∧ ∃ R', Par (w5.setCell ⟨P, 5, none⟩ v5) P src T R' { s with nd := s.nd ++ [x.d] } ∧ Keeps R w (w5.setCell ⟨P, 5, none⟩ v5) ∧ ∀ b, b < w.heap.size → R' b → R b ∨ b = X) := by
 have hP := h.lo
 have hs1 := k1.size
 -- the blocks
 have b5 : ∀ g, v5.ownBlock = some g → g = w1.heap.size ∨ v.ownBlock = some g := fun g hg => by
  rcases hb with e | e
  ·exact .inr (e ▸ hg)
  ·rw [e] at hg; cases hg; exact .inl rfl
 have keep5 : ∀ b, b < w1.heap.size → (∀ g, v.ownBlock = some g → b ≠ g) → w5.heap[b]? = w1.heap[b]? := fun b hb hn => hg.block b hb (fun e => hn b e.symm rfl)
 have cP : ∀ j, w5.cell? ⟨P, j, none⟩ = w.cell? ⟨P, j, none⟩ := fun j => (World.cell?_of_block (w := w1) (keep5 P (by omega) (fun g hg => fun e => (h.vb g hg).2 e.symm))).trans (k1.cell hP (fun h => h))
 have fP : ∀ j, w5.frozen? ⟨P, j, none⟩ = w.frozen? ⟨P, j, none⟩ := fun j => (World.frozen?_of_block (w := w1) (keep5 P (by omega) (fun g hg => fun e => (h.vb g hg).2 e.symm))).trans (k1.frozen hP (fun h => h))
 have c5 := (cP 5).trans h.c5
 have c5' : (w5.setCell ⟨P, 5, none⟩ v5).cell? ⟨P, 5, none⟩ = some v5 := cell_same w5 P 5 _ _ c5
 refine ⟨⟨c5, (fP 5).trans (h.fz 5)⟩, c5', ?_⟩
 have oth : ∀ j, 5 ≠ j → (w5.setCell ⟨P, 5, none⟩ v5).cell? ⟨P, j, none⟩ = w.cell? ⟨P, j, none⟩ := fun j e => (cell_other w5 5 j _ (.inl e)).trans (cP j)
 have kw6 : Keeps (fun b => b = P) w5 (w5.setCell ⟨P, 5, none⟩ v5) := (Keeps.refl (fun b => b = P) w5).setCell (p := ⟨P, 5, none⟩) (fun _ => rfl) _
 have k15 : Keeps (fun b => v.ownBlock = some b) w1 w5 := ⟨hg.os, hg.tape, hg.output, hg.size, fun b hb hn => hg.block b hb (fun e => hn e.symm)⟩
 have kall : Keeps (fun b => b = P ∨ v.ownBlock = some b) w (w5.setCell ⟨P, 5, none⟩ v5) :=
  ((k1.mono (T := fun b => b = P ∨ v.ownBlock = some b) (fun _ _ h => h.elim)).trans k15 (fun _ _ e => .inr e)).trans kw6 (fun _ _ e => .inl e)
 have sz5 : w1.heap.size ≤ w5.heap.size := hg.size
 have sz6 : (w5.setCell ⟨P, 5, none⟩ v5).heap.size = w5.heap.size := by simp
 have rdx : RdI w5 x.a x.d.l := hx.keep k15 (fun h0 b off e hv => by
  obtain ⟨off', e'⟩ := hX h0
  rw [e] at e'
  cases e'
  exact hR (h.vb X hv).1)
 refine ⟨fun b => R b ∨ (b = X ∧ 0 < x.d.l.length) ∨ v5.ownBlock = some b, ⟨A, cT, v5, L ++ [x], ?_⟩, kall.mono (fun b _ e => e.elim (fun e => e ▸ h.rp) (fun e => (h.vb b e).1)), fun b hb hr => ?_⟩
 ·have lift : ∀ b, R b → b < w5.heap.size := fun b hb => Nat.lt_of_lt_of_le (h.lt b hb) (by omega)
  have nP : ∀ g, v5.ownBlock = some g → g ≠ P := fun g hg => by
   rcases b5 g hg with e | e
   ·omega
   ·exact (h.vb g e).2
  have nR : ∀ b, R b → b ≠ P → (∀ g, v.ownBlock = some g → b ≠ g) → ∀ g, v5.ownBlock = some g → b ≠ g := fun b hb _ hn g hg => by
   rcases b5 g hg with e | e
   ·have := h.lt b hb; omega
   ·exact hn g e
  have ltA : ∀ b, (R b ∨ (b = X ∧ 0 < x.d.l.length) ∨ v5.ownBlock = some b) → b < (w5.setCell ⟨P, 5, none⟩ v5).heap.size := fun b hb => by
   rw [sz6]
   rcases hb with hb | ⟨hb, h0⟩ | hb
   ·exact lift b hb
   ·obtain ⟨off, e⟩ := hX h0
    rw [hb]
    exact rdx.lt h0 e
   ·exact (ho.lt b hb).2
  have ownA : (w5.setCell ⟨P, 5, none⟩ v5).ownsRow 0 41 5 v5 (L ++ [x]).length (flatN (L ++ [x])) := by
   rw [flatN_append, flatN_one, List.length_append]
   exact ownsRow_keep ho (fun g hg => kw6.block g (ho.lt g hg).2 (nP g hg))
  have lsA : ∀ y ∈ L ++ [x], RdI (w5.setCell ⟨P, 5, none⟩ v5) y.a y.d.l ∧ (0 < y.d.l.length → ∀ b off, y.a = some ⟨b, off, none⟩ → (R b ∨ (b = X ∧ 0 < x.d.l.length) ∨ v5.ownBlock = some b) ∧ b ≠ P ∧ ∀ g, v5.ownBlock = some g → b ≠ g) := fun y hy => by
   rcases List.mem_append.1 hy with hy | hy
   ·exact ⟨(h.ls y hy).1.keep kall (fun h0 b off e hc => hc.elim ((h.ls y hy).2 h0 b off e).2.1 (fun hv => ((h.ls y hy).2 h0 b off e).2.2 b hv rfl)), fun h0 b off e => ⟨.inl ((h.ls y hy).2 h0 b off e).1, ((h.ls y hy).2 h0 b off e).2.1, nR b ((h.ls y hy).2 h0 b off e).1 ((h.ls y hy).2 h0 b off e).2.1 ((h.ls y hy).2 h0 b off e).2.2⟩⟩
   ·rw [List.mem_singleton.1 hy]
    refine ⟨rdx.keep kw6 (fun h0 b off e hc => ?_), fun h0 b off e => ?_⟩
    ·obtain ⟨off', e'⟩ := hX h0
     rw [e] at e'
     cases e'
     exact hR (hc ▸ h.rp)
    ·obtain ⟨off', e'⟩ := hX h0
     rw [e] at e'
     cases e'
     refine ⟨.inr (.inl ⟨rfl, h0⟩), fun e => hR (e ▸ h.rp), fun g hg e2 => ?_⟩
     rcases b5 g hg with e3 | e3
     ·have := hx.lt h0 e
      omega
     ·exact hR (e2 ▸ (h.vb g e3).1)
  have erA : ErrP P (fun b => R b ∨ (b = X ∧ 0 < x.d.l.length) ∨ v5.ownBlock = some b) (w5.setCell ⟨P, 5, none⟩ v5) := h.er.keep kall (fun b hb => hb.elim (fun e => .inr (by omega)) (fun e => .inl (h.vb b e).1)) (fun b hb => by
   rcases hb with hb | ⟨hb, _⟩ | hb
   ·exact .inl hb
   ·exact .inr (by omega)
   ·rcases b5 b hb with e | e
    ·exact .inr (by omega)
    ·exact .inl (h.vb b e).1)
  exact { c0 := (oth 0 (by omega)).trans h.c0, c1 := (oth 1 (by omega)).trans h.c1, c2 := (oth 2 (by omega)).trans h.c2, c3 := (oth 3 (by omega)).trans h.c3, c4 := (oth 4 (by omega)).trans h.c4, c5 := c5', c6 := (oth 6 (by omega)).trans h.c6, fz := fun j => (World.frozen?_setCell w5 _ _ _).trans ((fP j).trans (h.fz j)), lt := ltA, rp := .inl h.rp, tok := h.tok.keepR kall (fun _ b off e hc => hc.elim (h.tb b off e).2.1 (fun hv => (h.tb b off e).2.2 b hv rfl)), tb := fun b off e => ⟨.inl (h.tb b off e).1, (h.tb b off e).2.1, nR b (h.tb b off e).1 (h.tb b off e).2.1 (h.tb b off e).2.2⟩, own := ownA, vb := fun g hg => ⟨.inr (.inr hg), nP g hg⟩, nd := (by rw [List.map_append, h.nd]; rfl), ls := lsA, cap := fun y hy => (List.mem_append.1 hy).elim (h.cap y) (fun hy => by rw [List.mem_singleton.1 hy]; exact hcap), hi := h.hi, ok := h.ok, er := erA }
 ·rcases hr with hr | ⟨hr, _⟩ | hr
  ·exact .inl hr
  ·exact .inr hr
  ·rcases b5 b hr with e | e
   ·omega
   ·exact .inl (h.vb b e).1
set_option maxRecDepth 100000 in
set_option maxHeartbeats 8000000 in
theorem node_any {P : Nat} {src : ByteArray} {T : List Tok} {R : Nat → Prop} {s : PS} {w : World} (h : Par w P src T R s) (d : Nd) (a0 : Option Addr) (m0 c0 : Nat) (a : Option Addr) (c : Nat) (l : List Int) (hcap : l.length ≤ c) (hx : RdI w a l) (X : Nat) (hX : 0 < l.length → ∃ off, a = some ⟨X, off, none⟩) (hR : ¬ R X) (hPX : P < X) (hnd : s.nd.length < 100000) :
  Calls Tryz.prog 97 #[.pointer (some ⟨P, 0, none⟩), .agg #[.int .i64 d.k, .int .i64 d.ln, .int .i64 d.n, .string (ofL d.s), .slice a0 m0 c0], .slice a l.length c] w fun e w' => e = .returned (.int .i64 (s.nd.length : Int)) ∧ ∃ R', Par w' P src T R' { s with nd := s.nd ++ [{ d with l := l }] } ∧ Keeps R w w' ∧ ∀ b, b < w.heap.size → R' b → R b ∨ b = X := by
 obtain ⟨i0, hi, hz0, hz1, hz2⟩ := info_parts info_node
 obtain ⟨A, cT, v, L, h⟩ := h
 have H := Lib.hid h
 have hP := h.lo
 have c5 := h.c5
 have f5 := h.fz 5
 have hL : L.length = s.nd.length := by rw [← h.nd, List.length_map]
 obtain ⟨n, hn⟩ : ∃ n, n = L.length := ⟨_, rfl⟩
 rw [← hL, ← hn] at hnd ⊢
 have HN := Lib.hid hn
 have n1 : IntKind.i64.wrap (((n + 1 : Nat) : Int) - 1) = (n : Int) := by rw [show ((n + 1 : Nat) : Int) - 1 = (n : Int) by omega]; exact IntWalk.i64_in _ (by omega)
 obtain ⟨m, hm⟩ : ∃ m, m = l.length := ⟨_, rfl⟩
 rw [← hm]
 obtain ⟨dx, hdx⟩ : ∃ dx : Nd, dx = { d with l := l } := ⟨_, rfl⟩
 rw [← hdx]
 obtain ⟨x, hxx⟩ : ∃ x : NM, x = ⟨dx, a, c⟩ := ⟨_, rfl⟩
 have hxc : x.cells = [.int .i64 d.k, .int .i64 d.ln, .int .i64 d.n, .string (ofL d.s), .slice a m c] := by rw [hxx, hdx, hm]; rfl
 have XC := Lib.hid hxc
 have hADD : Hid (∀ w1 w5 v5, Keeps (fun _ => False) w w1 → w5.ownsRow 0 41 5 v5 (n + 1) (flatN L ++ x.cells) → w1.grownBy w5 v.ownBlock → (v5.ownBlock = v.ownBlock ∨ v5.ownBlock = some w1.heap.size) → (w5.cell? ⟨P, 5, none⟩ = some v ∧ w5.frozen? ⟨P, 5, none⟩ = false) ∧
   ((w5.setCell ⟨P, 5, none⟩ v5).cell? ⟨P, 5, none⟩ = some v5 ∧ ∃ R', Par (w5.setCell ⟨P, 5, none⟩ v5) P src T R' { s with nd := s.nd ++ [dx] } ∧ Keeps R w (w5.setCell ⟨P, 5, none⟩ v5) ∧ ∀ b, b < w.heap.size → R' b → R b ∨ b = X)) := Lib.hid fun w1 w5 v5 k1 ho hg hb => by
  have hr : RdI w1 x.a x.d.l := by rw [hxx, hdx]; exact hx.keep k1 (fun _ _ _ _ h => h)
  have := H.out.add k1 x (by rw [hxx, hdx]; exact hcap) hr X (by rw [hxx, hdx]; exact hX) hR hPX (by rw [← HN.out]; exact ho) hg hb
  rwa [show x.d = dx by rw [hxx]] at this
 have hOwn : Hid (∀ w1, Keeps (fun _ => False) w w1 → w1.ownsRow 0 41 5 v n (flatN L)) := Lib.hid fun w1 k => by
  rw [HN.out]
  exact (H.out.keepR k (fun _ _ h => h) (fun _ h => h.elim)).own
 obtain ⟨sx, hsx⟩ : ∃ sx, sx = ofL d.s := ⟨_, rfl⟩
 rw [← hsx] at XC ⊢
 obtain ⟨A0, c0', rfl⟩ := own_formk h.own
 rw [← hn] at c5 hADD hOwn
 clear hn hxx hxc hsx hx hX hR hL hdx hm h hPX hcap
 go_enter Tryz.func97, Tryz.ntmps97
 go_upto_region 1 with fail
 have kb := Keeps.one w (.cells #[.int .i64 d.k, .int .i64 d.ln, .int .i64 d.n, .string sx, .slice a0 m0 c0] 41)
 have zb := Loc.new (w := w) (R := fun b => b = P) (by omega) [.int .i64 d.k, .int .i64 d.ln, .int .i64 d.n, .string sx, .slice a0 m0 c0] 41
 obtain ⟨B, hB⟩ : ∃ B, B = w.heap.size := ⟨_, rfl⟩
 obtain ⟨w1, hw1⟩ : ∃ w1, w1 = w.alloc (.cells #[.int .i64 d.k, .int .i64 d.ln, .int .i64 d.n, .string sx, .slice a0 m0 c0] 41) := ⟨_, rfl⟩
 have zb : Loc w1 (fun b => b = P) B [.int .i64 d.k, .int .i64 d.ln, .int .i64 d.n, .string sx, .slice a0 m0 c0] := by rw [hw1, hB]; exact zb
 rw [← hB]
 rw [← hw1] at kb ⊢
 have z0 := zb.cells 0 _ rfl
 have z1 := zb.cells 1 _ rfl
 have z2 := zb.cells 2 _ rfl
 have z3 := zb.cells 3 _ rfl
 have z4 := zb.cells 4 _ rfl
 have f4 := zb.fz 4
 have c5 := (kb.cell hP (fun h => h)).trans c5
 have f5 := (kb.frozen hP (fun h => h)).trans f5
 have hBl := zb.lt
 have hBP : B ≠ P := zb.out
 have HB := Lib.hid hB
 clear hw1 zb hB
 go_upto_region 2 with fail
 have k2 : Keeps (fun _ => False) w (w1.setCell ⟨B, 4, none⟩ (.slice a m c)) := kback (B := w.heap.size) ((kb.mono (T := fun b => w.heap.size ≤ b) (fun _ _ h => h.elim)).setCell (p := ⟨B, 4, none⟩) (fun _ => by show w.heap.size ≤ B; rw [HB.out]; exact Nat.le_refl _) _) rfl
 have y0 := (cell_other w1 (p := B) (q := B) 4 0 (.slice a m c) (.inl (by omega))).trans z0
 have y1 := (cell_other w1 (p := B) (q := B) 4 1 (.slice a m c) (.inl (by omega))).trans z1
 have y2 := (cell_other w1 (p := B) (q := B) 4 2 (.slice a m c) (.inl (by omega))).trans z2
 have y3 := (cell_other w1 (p := B) (q := B) 4 3 (.slice a m c) (.inl (by omega))).trans z3
 have y4 := cell_same w1 B 4 (.slice a m c) _ z4
 have d5 := (cell_other w1 (p := B) (q := P) 4 5 (.slice a m c) (.inr hBP)).trans c5
 obtain ⟨w2, hw2⟩ : ∃ w2, w2 = w1.setCell ⟨B, 4, none⟩ (.slice a m c) := ⟨_, rfl⟩
 have hw2s : w2.heap.size = w1.heap.size := by rw [hw2]; simp
 rw [← hw2] at k2 y0 y1 y2 y3 y4 d5 ⊢
 have hBl2 : B < w2.heap.size := by omega
 have hPl2 : P < w2.heap.size := Nat.lt_of_lt_of_le hP k2.size
 clear hw2 z0 z1 z2 z3 z4 f4 c5 f5 kb hw2s hBl
 refine wp_region_held_drew (S := fun w' => w'.cell? ⟨B, 0, none⟩ = some (.int .i64 d.k) ∧ w'.cell? ⟨B, 1, none⟩ = some (.int .i64 d.ln) ∧ w'.cell? ⟨B, 2, none⟩ = some (.int .i64 d.n) ∧ w'.cell? ⟨B, 3, none⟩ = some (.string sx) ∧ w'.cell? ⟨B, 4, none⟩ = some (.slice a m c)) (by kernel_rfl) (⟨y0, y1, y2, y3, y4⟩) (fun hHeld => ?_)
 have D0 := Lib.hid (And.intro d5 (And.intro hBl2 hPl2))
 have k3 := Lib.hid k2.drew
 have d5 : w2.drew.cell? ⟨P, 5, none⟩ = some (.slice A0 n c0') := d5
 clear y0 y1 y2 y3 y4
 have Y : Hid (w2.drew.cell? ⟨B, 0, none⟩ = some (.int .i64 d.k) ∧ w2.drew.cell? ⟨B, 1, none⟩ = some (.int .i64 d.ln) ∧ w2.drew.cell? ⟨B, 2, none⟩ = some (.int .i64 d.n) ∧ w2.drew.cell? ⟨B, 3, none⟩ = some (.string sx) ∧ w2.drew.cell? ⟨B, 4, none⟩ = some (.slice a m c)) := Lib.hid hHeld
 have hBO : Hid ((Value.slice A0 n c0').ownBlock ≠ some B) := Lib.hid (fun e => by have h1 := own_ltk (hOwn.out w (Keeps.refl _ _)) e; have h2 := HB.out; omega)
 refine wpAnyH_take (i := 0) (v := ?_) rfl (by kernel_rfl) (by kernel_rfl) (by kernel_rfl) (fun _ _ _ h => h) (Or.inl ⟨by rfl, ?_⟩) (by assumption) ?_
 rotate_left
 ·(intro w' hSw; (try dsimp only at hSw); obtain ⟨z0, z1, z2, z3, z4⟩ := hSw; go_simp; (try (with_reducible rfl)))
 simp only [Act.put, List.getElem_toArray, List.getElem_cons_succ, List.getElem_cons_zero, List.setIfInBounds_toArray, List.set_cons_succ, List.set_cons_zero]
 refine wpAnyH_take (i := 1) (v := ?_) rfl (by kernel_rfl) (by kernel_rfl) (by kernel_rfl) (fun _ _ _ h => h) (Or.inl ⟨by rfl, ?_⟩) (by assumption) ?_
 rotate_left
 ·(intro w' hSw; (try dsimp only at hSw); obtain ⟨z0, z1, z2, z3, z4⟩ := hSw; go_simp; (try (with_reducible rfl)))
 simp only [Act.put, List.getElem_toArray, List.getElem_cons_succ, List.getElem_cons_zero, List.setIfInBounds_toArray, List.set_cons_succ, List.set_cons_zero]
 refine wpAnyH_take (i := 2) (v := ?_) rfl (by kernel_rfl) (by kernel_rfl) (by kernel_rfl) (fun _ _ _ h => h) (Or.inl ⟨by rfl, ?_⟩) (by assumption) ?_
 rotate_left
 ·(intro w' hSw; (try dsimp only at hSw); obtain ⟨z0, z1, z2, z3, z4⟩ := hSw; go_simp; (try (with_reducible rfl)))
 simp only [Act.put, List.getElem_toArray, List.getElem_cons_succ, List.getElem_cons_zero, List.setIfInBounds_toArray, List.set_cons_succ, List.set_cons_zero]
 refine wpAnyH_take (i := 3) (v := ?_) rfl (by kernel_rfl) (by kernel_rfl) (by kernel_rfl) (fun _ _ _ h => h) (Or.inl ⟨by rfl, ?_⟩) (by assumption) ?_
 rotate_left
 ·(intro w' hSw; (try dsimp only at hSw); obtain ⟨z0, z1, z2, z3, z4⟩ := hSw; go_simp; (try (with_reducible rfl)))
 simp only [Act.put, List.getElem_toArray, List.getElem_cons_succ, List.getElem_cons_zero, List.setIfInBounds_toArray, List.set_cons_succ, List.set_cons_zero]
 refine wpAnyH_take (i := 5) (v := ?_) rfl (by kernel_rfl) (by kernel_rfl) (by kernel_rfl) (fun _ _ _ h => h) (Or.inl ⟨by rfl, ?_⟩) (by assumption) ?_
 rotate_left
 ·(intro w' hSw; (try dsimp only at hSw); obtain ⟨z0, z1, z2, z3, z4⟩ := hSw; go_simp; (try (with_reducible rfl)))
 simp only [Act.put, List.getElem_toArray, List.getElem_cons_succ, List.getElem_cons_zero, List.setIfInBounds_toArray, List.set_cons_succ, List.set_cons_zero]
 refine wpAnyH_ready (rs := [4, 6]) (by kernel_rfl) (by simp) ?_
 refine AllReadyH.cons rfl (fun K hK => ?_) ?_
 ·go_simp
  refine hK.out _ _ hHeld (fun hHeld => ?_)
  clear hK K
  refine wpAnyH_ready (rs := [6]) (by kernel_rfl) (by simp) ?_
  refine AllReadyH.cons rfl (fun K hK => ?_) AllReadyH.nil
  go_simp
  have KA := Keeps.one w2.drew (.cells #[.int .i64 d.k, .int .i64 d.ln, .int .i64 d.n, .string sx, .slice a m c] 41)
  refine hK.out _ _ ⟨(KA.cell D0.out.2.1 (fun h => h)).trans hHeld.1, (KA.cell D0.out.2.1 (fun h => h)).trans hHeld.2.1, (KA.cell D0.out.2.1 (fun h => h)).trans hHeld.2.2.1, (KA.cell D0.out.2.1 (fun h => h)).trans hHeld.2.2.2.1, (KA.cell D0.out.2.1 (fun h => h)).trans hHeld.2.2.2.2⟩ (fun hHeld => ?_)
  have d5 := (KA.cell D0.out.2.2 (fun h => h)).trans d5
  clear hK K KA
  refine wpAnyH_ready (rs := [7]) (by kernel_rfl) (by simp) ?_
  refine AllReadyH.cons rfl (fun K hK => ?_) AllReadyH.nil
  have K4 := Lib.hid (k3.out.alloc (.cells #[.int .i64 d.k, .int .i64 d.ln, .int .i64 d.n, .string sx, .slice a m c] 41))
  refine step_append_atk (by rfl) (.tmp 13) (.tmp 15) 24 (by rfl) 0 41 i0 _ 5 64 Tryz.underlying24 hi hz0 hz1 hz2 (by rfl) (by omega) (.slice A0 n c0') n (flatN L) (by rfl) (hOwn.out _ K4.out) ⟨w2.drew.heap.size, 0, none⟩ 1 1 x.cells (by rfl) (by rw [XC.out]; rfl) (by have e := XC.out; have hh := news5 (w := w2.drew) x 41; rw [e] at hh ⊢; exact hh) (NM.one x) (by omega) (by omega) (Nat.zero_le _) ?_
  intro v5 w5 h5 g5 b5
  obtain ⟨A5, c5', rfl⟩ := own_formk h5
  have hm := hADD.out _ _ _ K4.out h5 g5 b5
  have HM := Lib.hid hm.2.2
  have e5 := hm.1.1
  have g5' := hm.1.2
  have e6 := hm.2.1
  have ky : ∀ k, w5.cell? ⟨B, k, none⟩ = w2.drew.cell? ⟨B, k, none⟩ := fun k => (World.cell?_of_block (g5.block B (by show B < (World.alloc _ _).heap.size; rw [World.size_alloc]; exact Nat.lt_succ_of_lt D0.out.2.1) (fun e => hBO.out e.symm))).trans ((Keeps.one w2.drew _).cell D0.out.2.1 (fun h => h))
  refine hK.out _ _ ⟨(ky 0).trans Y.out.1, (ky 1).trans Y.out.2.1, (ky 2).trans Y.out.2.2.1, (ky 3).trans Y.out.2.2.2.1, (ky 4).trans Y.out.2.2.2.2⟩ (fun hHeld => ?_)
  clear hK K hm h5 g5 b5 ky K4
  simp only [Act.put, List.getElem_toArray, List.getElem_cons_succ, List.getElem_cons_zero, List.setIfInBounds_toArray, List.set_cons_succ, List.set_cons_zero]
  refine wpAnyH_take (i := 8) (v := ?_) rfl (by kernel_rfl) (by kernel_rfl) (by kernel_rfl) (fun _ _ _ h => h) (Or.inl ⟨by rfl, ?_⟩) (by assumption) ?_
  rotate_left
  ·(intro w' hSw; (try dsimp only at hSw); obtain ⟨z0, z1, z2, z3, z4⟩ := hSw; go_simp; (try (with_reducible rfl)))
  simp only [Act.put, List.getElem_toArray, List.getElem_cons_succ, List.getElem_cons_zero, List.setIfInBounds_toArray, List.set_cons_succ, List.set_cons_zero]
  refine wpAnyH_take (i := 9) (v := ?_) rfl (by kernel_rfl) (by kernel_rfl) (by kernel_rfl) (fun _ _ _ h => h) (Or.inl ⟨by rfl, ?_⟩) (by assumption) ?_
  rotate_left
  ·(intro w' hSw; (try dsimp only at hSw); obtain ⟨z0, z1, z2, z3, z4⟩ := hSw; go_simp; (try (with_reducible rfl)))
  simp only [Act.put, List.getElem_toArray, List.getElem_cons_succ, List.getElem_cons_zero, List.setIfInBounds_toArray, List.set_cons_succ, List.set_cons_zero]
  refine wpAnyH_ready (rs := [10]) (by kernel_rfl) (by simp) ?_
  refine AllReadyH.cons rfl (fun K hK => ?_) AllReadyH.nil
  go_simp
  have hk0 : ∀ k, (w5.setCell ⟨P, 5, none⟩ (.slice A5 (n + 1) c5')).cell? ⟨B, k, none⟩ = w5.cell? ⟨B, k, none⟩ := fun k => cell_other w5 (p := P) (q := B) 5 k _ (.inr (fun e => hBP e.symm))
  refine hK.out _ _ ⟨(hk0 0).trans hHeld.1, (hk0 1).trans hHeld.2.1, (hk0 2).trans hHeld.2.2.1, (hk0 3).trans hHeld.2.2.2.1, (hk0 4).trans hHeld.2.2.2.2⟩ (fun hHeld => ?_)
  clear hK K hk0 e5 g5'
  refine wpAnyH_done (by kernel_rfl) ?_ _
  clear hHeld
  generalize w5.setCell ⟨P, 5, none⟩ (.slice A5 (n + 1) c5') = w6 at e6 HM ⊢
  go_wp2
  go_ret
  exact ⟨rfl, HM.out⟩
 refine AllReadyH.cons rfl (fun K hK => ?_) AllReadyH.nil
 go_simp
 have KA := Keeps.one w2.drew (.cells #[.int .i64 d.k, .int .i64 d.ln, .int .i64 d.n, .string sx, .slice a m c] 41)
 refine hK.out _ _ ⟨(KA.cell D0.out.2.1 (fun h => h)).trans hHeld.1, (KA.cell D0.out.2.1 (fun h => h)).trans hHeld.2.1, (KA.cell D0.out.2.1 (fun h => h)).trans hHeld.2.2.1, (KA.cell D0.out.2.1 (fun h => h)).trans hHeld.2.2.2.1, (KA.cell D0.out.2.1 (fun h => h)).trans hHeld.2.2.2.2⟩ (fun hHeld => ?_)
 have d5 := (KA.cell D0.out.2.2 (fun h => h)).trans d5
 clear hK K KA
 refine wpAnyH_ready (rs := [4]) (by kernel_rfl) (by simp) ?_
 refine AllReadyH.cons rfl (fun K hK => ?_) AllReadyH.nil
 go_simp
 refine hK.out _ _ hHeld (fun hHeld => ?_)
 clear hK K
 refine wpAnyH_ready (rs := [7]) (by kernel_rfl) (by simp) ?_
 refine AllReadyH.cons rfl (fun K hK => ?_) AllReadyH.nil
 have K4 := Lib.hid (k3.out.alloc (.cells #[.int .i64 d.k, .int .i64 d.ln, .int .i64 d.n, .string sx, .slice a m c] 41))
 refine step_append_atk (by rfl) (.tmp 13) (.tmp 15) 24 (by rfl) 0 41 i0 _ 5 64 Tryz.underlying24 hi hz0 hz1 hz2 (by rfl) (by omega) (.slice A0 n c0') n (flatN L) (by rfl) (hOwn.out _ K4.out) ⟨w2.drew.heap.size, 0, none⟩ 1 1 x.cells (by rfl) (by rw [XC.out]; rfl) (by have e := XC.out; have hh := news5 (w := w2.drew) x 41; rw [e] at hh ⊢; exact hh) (NM.one x) (by omega) (by omega) (Nat.zero_le _) ?_
 intro v5 w5 h5 g5 b5
 obtain ⟨A5, c5', rfl⟩ := own_formk h5
 have hm := hADD.out _ _ _ K4.out h5 g5 b5
 have HM := Lib.hid hm.2.2
 have e5 := hm.1.1
 have g5' := hm.1.2
 have e6 := hm.2.1
 have ky : ∀ k, w5.cell? ⟨B, k, none⟩ = w2.drew.cell? ⟨B, k, none⟩ := fun k => (World.cell?_of_block (g5.block B (by show B < (World.alloc _ _).heap.size; rw [World.size_alloc]; exact Nat.lt_succ_of_lt D0.out.2.1) (fun e => hBO.out e.symm))).trans ((Keeps.one w2.drew _).cell D0.out.2.1 (fun h => h))
 refine hK.out _ _ ⟨(ky 0).trans Y.out.1, (ky 1).trans Y.out.2.1, (ky 2).trans Y.out.2.2.1, (ky 3).trans Y.out.2.2.2.1, (ky 4).trans Y.out.2.2.2.2⟩ (fun hHeld => ?_)
 clear hK K hm h5 g5 b5 ky K4
 simp only [Act.put, List.getElem_toArray, List.getElem_cons_succ, List.getElem_cons_zero, List.setIfInBounds_toArray, List.set_cons_succ, List.set_cons_zero]
 refine wpAnyH_take (i := 8) (v := ?_) rfl (by kernel_rfl) (by kernel_rfl) (by kernel_rfl) (fun _ _ _ h => h) (Or.inl ⟨by rfl, ?_⟩) (by assumption) ?_
 rotate_left
 ·(intro w' hSw; (try dsimp only at hSw); obtain ⟨z0, z1, z2, z3, z4⟩ := hSw; go_simp; (try (with_reducible rfl)))
 simp only [Act.put, List.getElem_toArray, List.getElem_cons_succ, List.getElem_cons_zero, List.setIfInBounds_toArray, List.set_cons_succ, List.set_cons_zero]
 refine wpAnyH_take (i := 9) (v := ?_) rfl (by kernel_rfl) (by kernel_rfl) (by kernel_rfl) (fun _ _ _ h => h) (Or.inl ⟨by rfl, ?_⟩) (by assumption) ?_
 rotate_left
 ·(intro w' hSw; (try dsimp only at hSw); obtain ⟨z0, z1, z2, z3, z4⟩ := hSw; go_simp; (try (with_reducible rfl)))
 simp only [Act.put, List.getElem_toArray, List.getElem_cons_succ, List.getElem_cons_zero, List.setIfInBounds_toArray, List.set_cons_succ, List.set_cons_zero]
 refine wpAnyH_ready (rs := [10]) (by kernel_rfl) (by simp) ?_
 refine AllReadyH.cons rfl (fun K hK => ?_) AllReadyH.nil
 go_simp
 have hk0 : ∀ k, (w5.setCell ⟨P, 5, none⟩ (.slice A5 (n + 1) c5')).cell? ⟨B, k, none⟩ = w5.cell? ⟨B, k, none⟩ := fun k => cell_other w5 (p := P) (q := B) 5 k _ (.inr (fun e => hBP e.symm))
 refine hK.out _ _ ⟨(hk0 0).trans hHeld.1, (hk0 1).trans hHeld.2.1, (hk0 2).trans hHeld.2.2.1, (hk0 3).trans hHeld.2.2.2.1, (hk0 4).trans hHeld.2.2.2.2⟩ (fun hHeld => ?_)
 clear hK K hk0 e5 g5'
 refine wpAnyH_done (by kernel_rfl) ?_ _
 clear hHeld
 generalize w5.setCell ⟨P, 5, none⟩ (.slice A5 (n + 1) c5') = w6 at e6 HM ⊢
 go_wp2
 go_ret
 exact ⟨rfl, HM.out⟩
end Go.Proofs.YtbhpnioggpgbhaaGreatDoor

namespace Go.Proofs.YtbhpnioggpgbhaaGreatDoor
open Go Go.RowKit Go.Shelf
set_option linter.unusedVariables false
set_option linter.unusedSimpArgs false
theorem ask_out {α β : Type} {f : PS → α} {g : α → PM β} {s : PS} {r : β × PS} (h : (ask f >>= g) s = some r) : ∃ a, a = f s ∧ g a s = some r := ⟨f s, rfl, h⟩
theorem mod_out {β : Type} {f : PS → PS} {g : Unit → PM β} {s : PS} {r : β × PS} (h : (mod f >>= g) s = some r) : ∃ s1, s1 = f s ∧ g () s1 = some r := ⟨f s, rfl, h⟩
theorem node_out {n : Nd} {l : List Int} {s s' : PS} {r : Int} (h : nodeM n l s = some (r, s')) : s.nd.length < 100000 ∧ r = (s.nd.length : Int) ∧ s' = { s with nd := s.nd ++ [{ n with l := l }] } := by
 unfold nodeM at h
 split at h
 ·rename_i hl
  injection h with h
  injection h with h1 h2
  exact ⟨hl, h1.symm, h2.symm⟩
 ·cases h
theorem deep_out {d : Int} {s s' : PS} {u : Unit} (h : deepS d s = some (u, s')) : (-1000000 < s.dp ∧ s.dp < 1000000) ∧ s' = { s with dp := s.dp + d } := by
 unfold deepS at h
 split at h
 ·rename_i hl
  injection h with h
  injection h with h1 h2
  exact ⟨hl, h2.symm⟩
 ·cases h
theorem nextS_dp (T : List Tok) (s : PS) : (nextS T s).dp = s.dp := by unfold nextS; split <;> rfl
theorem failS_dp (T : List Tok) (e : Nat) (s : PS) : (failS T e s).dp = s.dp := by unfold failS; split <;> rfl
theorem wantS_dp (T : List Tok) (x : List UInt8) (s : PS) : (wantS T x s).dp = s.dp := by
 unfold wantS
 split
 ·exact nextS_dp T s
 ·exact failS_dp T 20 s
/-- The contract of a function of the parser's that tells a number. -/
def ExC (P : Nat) (src : ByteArray) (T : List Tok) (f : Nat) (m : PM Int) : Prop :=
 ∀ (s : PS) (a : Int) (s1 : PS) (R : Nat → Prop) (w : World), m s = some (a, s1) → Par w P src T R s → Calls Tryz.prog f #[.pointer (some ⟨P, 0, none⟩)] w (Post P src T R w (.int .i64 a) s1)
theorem is_at1 {P : Nat} {src : ByteArray} {T : List Tok} {R : Nat → Prop} {s : PS} {w : World} (h : Par w P src T R s) (x : ByteArray) {b : Bool} (hb : b = isS T [x.data.toList] s) :
  Calls Tryz.prog 62 #[.pointer (some ⟨P, 0, none⟩), .slice (some ⟨w.heap.size, 0, none⟩) 1 1] (w.alloc (.cells #[.string x] 9)) fun e w' => e = .returned (.bool b) ∧ Keeps (fun _ => False) w w' := by
 rw [hb]
 exact is_one h x _
theorem is_at2 {P : Nat} {src : ByteArray} {T : List Tok} {R : Nat → Prop} {s : PS} {w : World} (h : Par w P src T R s) (x y : ByteArray) {b : Bool} (hb : b = isS T [x.data.toList, y.data.toList] s) :
  Calls Tryz.prog 62 #[.pointer (some ⟨P, 0, none⟩), .slice (some ⟨w.heap.size, 0, none⟩) 2 2] (w.alloc (.cells #[.string x, .string y] 9)) fun e w' => e = .returned (.bool b) ∧ Keeps (fun _ => False) w w' := by
 rw [hb]
 exact (is_any (h.keep (Keeps.one w _)) [x, y] w.heap.size 0 2 rfl (by omega) (fun j hj => by
  rw [Nat.zero_add, World.cell?_alloc_mark w #[.string x, .string y] 9 (0, 0) j]
  match j, hj with
  | 0, _ => rfl
  | 1, _ => rfl)).mono fun e w' ⟨h1, k⟩ => ⟨h1, (Keeps.one w _).trans k (fun _ _ h => h)⟩
theorem is_at4 {P : Nat} {src : ByteArray} {T : List Tok} {R : Nat → Prop} {s : PS} {w : World} (h : Par w P src T R s) (x y z u : ByteArray) {b : Bool} (hb : b = isS T [x.data.toList, y.data.toList, z.data.toList, u.data.toList] s) :
  Calls Tryz.prog 62 #[.pointer (some ⟨P, 0, none⟩), .slice (some ⟨w.heap.size, 0, none⟩) 4 4] (w.alloc (.cells #[.string x, .string y, .string z, .string u] 9)) fun e w' => e = .returned (.bool b) ∧ Keeps (fun _ => False) w w' := by
 rw [hb]
 exact (is_any (h.keep (Keeps.one w _)) [x, y, z, u] w.heap.size 0 4 rfl (by omega) (fun j hj => by
  rw [Nat.zero_add, World.cell?_alloc_mark w #[.string x, .string y, .string z, .string u] 9 (0, 0) j]
  match j, hj with
  | 0, _ => rfl
  | 1, _ => rfl
  | 2, _ => rfl
  | 3, _ => rfl)).mono fun e w' ⟨h1, k⟩ => ⟨h1, (Keeps.one w _).trans k (fun _ _ h => h)⟩
theorem line_at {P : Nat} {src : ByteArray} {T : List Tok} {R : Nat → Prop} {s : PS} {w : World} (hsz : src.size ≤ 1000) (h : Par w P src T R s) {ln : Int} (hl : ln = lineS src.data.toList T s) :
  Calls Tryz.prog 59 #[.pointer (some ⟨P, 0, none⟩)] w fun e w' => e = .returned (.int .i64 ln) ∧ Keeps (fun _ => False) w w' := by
 rw [hl]
 exact pline_any hsz h
theorem now_at {P : Nat} {src : ByteArray} {T : List Tok} {R : Nat → Prop} {s : PS} {w : World} (h : Par w P src T R s) {t : Tok} (ht : t = tokA T s) :
  Calls Tryz.prog 34 #[.pointer (some ⟨P, 0, none⟩)] w fun e w' => e = .returned (.agg #[.int .i64 (t.k : Int), .string (ofL t.x), .int .i64 (t.p : Int)]) ∧ Keeps (fun _ => False) w w' := by
 rw [ht]
 exact now_any h
theorem next_at {P : Nat} {src : ByteArray} {T : List Tok} {R : Nat → Prop} {s s1 : PS} {w : World} (h : Par w P src T R s) (e : s1 = nextS T s) : Calls Tryz.prog 64 #[.pointer (some ⟨P, 0, none⟩)] w (Post P src T R w (.tuple #[]) s1) := by
 rw [e]
 exact next_any h
theorem want_at {P : Nat} {src : ByteArray} {T : List Tok} {R : Nat → Prop} {s s1 : PS} {w : World} (h : Par w P src T R s) (x : ByteArray) (e : s1 = wantS T x.data.toList s) : Calls Tryz.prog 60 #[.pointer (some ⟨P, 0, none⟩), .string x] w (Post P src T R w (.tuple #[]) s1) := by
 rw [e]
 exact want_any h x
theorem fail_at {P : Nat} {src : ByteArray} {T : List Tok} {R : Nat → Prop} {s s1 : PS} {w : World} (h : Par w P src T R s) (k : Nat) (e : s1 = failS T k s) : Calls Tryz.prog 91 #[.pointer (some ⟨P, 0, none⟩), .int .i64 (k : Int)] w (Post P src T R w (.tuple #[]) s1) := by
 rw [e]
 exact fail_any h k
theorem name_at {P : Nat} {src : ByteArray} {T : List Tok} {R : Nat → Prop} {s s1 : PS} {w : World} {x : List UInt8} (h : Par w P src T R s) (e : s1 = nameS T s) (ex : x = nameX T s) : Calls Tryz.prog 61 #[.pointer (some ⟨P, 0, none⟩)] w (Post P src T R w (.string (ofL x)) s1) := by
 rw [e, ex]
 exact pname_any h
theorem Loc.set {w : World} {R : Nat → Prop} {X : Nat} {vs : List Value} (h : Loc w R X vs) (j : Nat) (u : Value) (hj : j < vs.length) : Loc (w.setCell ⟨X, j, none⟩ u) R X (vs.set j u) := by
 refine ⟨by simpa using h.lt, h.out, fun k v hv => ?_, fun k => (World.frozen?_setCell w _ _ _).trans (h.fz k)⟩
 by_cases e : j = k
 ·subst e
  rw [List.getElem?_set_self hj] at hv
  cases hv
  exact cell_same w X j u _ (h.cells j vs[j] (List.getElem?_eq_getElem hj))
 ·rw [List.getElem?_set_ne e] at hv
  exact (cell_other w j k u (.inl e)).trans (h.cells k v hv)
set_option maxRecDepth 100000 in
set_option maxHeartbeats 8000000 in
theorem shut_any {P : Nat} {src : ByteArray} {T : List Tok} {R : Nat → Prop} {s s1 : PS} {w : World} (h : Par w P src T R s) (x : ByteArray) {u : Unit} (hm : shutM T x.data.toList s = some (u, s1)) : Calls Tryz.prog 96 #[.pointer (some ⟨P, 0, none⟩), .string x] w (Post P src T R w (.tuple #[]) s1) := by
 have H := Lib.hid h
 obtain ⟨s2, e2, hm⟩ := mod_out hm
 obtain ⟨hd, e1⟩ := deep_out hm
 have WC := Lib.hid (want_at h x e2)
 have E1 := Lib.hid e1
 clear hm e1 e2 h
 go_enter Tryz.func96, Tryz.ntmps96
 go_wp2_with fail
 refine WC.out.mono ?_
 rintro e w1 ⟨rfl, R1, hp, hf⟩
 have hs := hp.see
 have c6 := hs.c6
 have f6 := hs.fz 6
 have hw := IntWalk.i64_in (s2.dp - 1) (by omega)
 have hset := hp.setDp (s2.dp - 1)
 have HF : Hid (Post P src T R w (.tuple #[]) s1 (.returned (.tuple #[])) (w1.setCell ⟨P, 6, none⟩ (.int .i64 (s2.dp - 1)))) := Lib.hid ⟨rfl, R1, by rw [E1.out]; exact hset.1, hf.trans hset.2⟩
 generalize s2.dp = dp at c6 hw HF hd
 clear hs hset hp hf WC E1 hd H
 go_wp2_with fail
 exact bodyPost_end (v := .tuple #[]) (by simp [results, Tryz.results96, go_sem]) rfl HF.out
set_option maxRecDepth 100000 in
set_option maxHeartbeats 8000000 in
theorem open_any {P : Nat} {src : ByteArray} {T : List Tok} {R : Nat → Prop} {s s1 : PS} {w : World} (h : Par w P src T R s) (x : ByteArray) {u : Unit} (hm : openM T x.data.toList s = some (u, s1)) : Calls Tryz.prog 94 #[.pointer (some ⟨P, 0, none⟩), .string x] w (Post P src T R w (.tuple #[]) s1) := by
 have H := Lib.hid h
 obtain ⟨s3, e3, hm⟩ := mod_out hm
 obtain ⟨hd, e1⟩ := deep_out hm
 have hdp : s3.dp = s.dp := by
  rw [e3]
  unfold openS
  rw [wantS_dp]
  split
  ·exact failS_dp T 21 s
  ·rfl
 have E1 := Lib.hid e1
 obtain ⟨b, hb⟩ : ∃ b, b = isS T [x.data.toList] s := ⟨_, rfl⟩
 have IC := Lib.hid (is_at1 h x hb)
 have c6 := h.see.c6
 unfold openS at e3
 rw [← hb] at e3
 clear hm e1 hb h
 cases b with
 | false =>
  have E3 : Hid (s3 = wantS T x.data.toList s) := Lib.hid (by rw [e3]; rfl)
  clear e3 hdp c6
  go_enter Tryz.func94, Tryz.ntmps94
  go_wp2_with fail
  refine IC.out.mono ?_
  rintro e w1 ⟨rfl, k1⟩
  have WC := Lib.hid (want_at (H.out.keep k1) x E3.out)
  clear IC E3
  go_wp2_with fail
  refine WC.out.mono ?_
  rintro e w2 ⟨rfl, R1, hp, hf⟩
  have HP2 := Lib.hid hp
  have HF2 := Lib.hid (((Fr.refl R w).keeps k1).trans hf)
  clear WC hp hf k1
  have hs := HP2.out.see
  have c6 := hs.c6
  have f6 := hs.fz 6
  have hw := IntWalk.i64_in (s3.dp + 1) (by omega)
  have hset := HP2.out.setDp (s3.dp + 1)
  have HF : Hid (Post P src T R w (.tuple #[]) s1 (.returned (.tuple #[])) (w2.setCell ⟨P, 6, none⟩ (.int .i64 (s3.dp + 1)))) := Lib.hid ⟨rfl, _, by rw [E1.out]; exact hset.1, HF2.out.trans hset.2⟩
  generalize s3.dp = dp at c6 hw HF hd
  clear hs hset HP2 HF2 E1 hd H
  go_wp2_with fail
  exact bodyPost_end (v := .tuple #[]) (by simp [results, Tryz.results94, go_sem]) rfl HF.out
 | true =>
  by_cases h16 : 16 ≤ s.dp
  ·have d16 : decide (16 ≤ s.dp) = true := decide_eq_true h16
   obtain ⟨s4, e4⟩ : ∃ s4, s4 = failS T 21 s := ⟨_, rfl⟩
   have E3 : Hid (s3 = wantS T x.data.toList s4) := Lib.hid (by rw [e3, d16, e4]; rfl)
   have E4 := Lib.hid e4
   clear e3 e4 hdp
   go_enter Tryz.func94, Tryz.ntmps94
   go_wp2_with fail
   refine IC.out.mono ?_
   rintro e w1 ⟨rfl, k1⟩
   have c6 := (H.out.keep k1).see.c6
   have FC := Lib.hid (fail_at (H.out.keep k1) 21 E4.out)
   clear IC
   go_wp2_with fail
   refine FC.out.mono ?_
   rintro e w3 ⟨rfl, R3, hp3, hf3⟩
   have WC := Lib.hid (want_at hp3 x E3.out)
   clear FC
   go_wp2_with fail
   refine WC.out.mono ?_
   rintro e w2 ⟨rfl, R1, hp, hf⟩
   have HP2 := Lib.hid hp
   have HF2 := Lib.hid ((((Fr.refl R w).keeps k1).trans hf3).trans hf)
   clear WC hp hf k1 hf3 hp3 c6 h16 d16 E3 E4
   have hs := HP2.out.see
   have c6 := hs.c6
   have f6 := hs.fz 6
   have hw := IntWalk.i64_in (s3.dp + 1) (by omega)
   have hset := HP2.out.setDp (s3.dp + 1)
   have HF : Hid (Post P src T R w (.tuple #[]) s1 (.returned (.tuple #[])) (w2.setCell ⟨P, 6, none⟩ (.int .i64 (s3.dp + 1)))) := Lib.hid ⟨rfl, _, by rw [E1.out]; exact hset.1, HF2.out.trans hset.2⟩
   generalize s3.dp = dp at c6 hw HF hd
   clear hs hset HP2 HF2 E1 hd H
   go_wp2_with fail
   exact bodyPost_end (v := .tuple #[]) (by simp [results, Tryz.results94, go_sem]) rfl HF.out
  ·have d16 : decide (16 ≤ s.dp) = false := decide_eq_false h16
   have E3 : Hid (s3 = wantS T x.data.toList s) := Lib.hid (by rw [e3, d16]; rfl)
   clear e3 hdp c6
   go_enter Tryz.func94, Tryz.ntmps94
   go_wp2_with fail
   refine IC.out.mono ?_
   rintro e w1 ⟨rfl, k1⟩
   have WC := Lib.hid (want_at (H.out.keep k1) x E3.out)
   have c6 := (H.out.keep k1).see.c6
   clear IC E3
   go_wp2_with fail
   refine WC.out.mono ?_
   rintro e w2 ⟨rfl, R1, hp, hf⟩
   have HP2 := Lib.hid hp
   have HF2 := Lib.hid (((Fr.refl R w).keeps k1).trans hf)
   clear WC hp hf k1 c6 h16 d16
   have hs := HP2.out.see
   have c6 := hs.c6
   have f6 := hs.fz 6
   have hw := IntWalk.i64_in (s3.dp + 1) (by omega)
   have hset := HP2.out.setDp (s3.dp + 1)
   have HF : Hid (Post P src T R w (.tuple #[]) s1 (.returned (.tuple #[])) (w2.setCell ⟨P, 6, none⟩ (.int .i64 (s3.dp + 1)))) := Lib.hid ⟨rfl, _, by rw [E1.out]; exact hset.1, HF2.out.trans hset.2⟩
   generalize s3.dp = dp at c6 hw HF hd
   clear hs hset HP2 HF2 E1 hd H
   go_wp2_with fail
   exact bodyPost_end (v := .tuple #[]) (by simp [results, Tryz.results94, go_sem]) rfl HF.out
end Go.Proofs.YtbhpnioggpgbhaaGreatDoor
