/-
  Layer 2: a node is put. Written by an AI agent.
  Layer 2: open, shut, calls, Type; what serves the parser's walks. Written by an AI agent.
  Layer 2: calls, and types by their words. Written by an AI agent.
  Layer 2: rows of numbers that go below a node; a node by its contract. Written by an AI agent.
-/
import Derived.Test.YtgelggdgbmldiaaGreatDoorMbag
import Derived.Deep.RegionHeld
namespace Go.Proofs.YtgelggdgbmldiaaGreatDoor
open Go Go.RowKit Go.Shelf
set_option linter.unusedVariables false
set_option linter.unusedSimpArgs false
theorem step_append_atk {P : Program} {ops : Array Oper} {o : Oper} {a : Act} {w : World} {K : Act → World → Prop} {Q : Exit → Act → World → Prop} {E : Prop} (hgd : o.guard = none) (s x : Operand) (t : TypeId)
    (ho : o.op = .call { callee := .builtin .append, args := #[s, x], argTypes := #[t, t] })
    (base : Nat) (e : TypeId) (i : TypeInfo) (z : Value) (size bytes : Nat) (ht : P.underlying t = some (.slice e)) (hi : P.info? e = some i) (hz : i.zero = some z)
    (hsize : i.size = size) (hby : i.bytes = bytes) (hzs : z.cells.size = size) (hsz : 0 < size)
    (v : Value) (n : Nat) (xs : List Value) (hs : a.eval s = v) (hown : w.ownsRow base e size v n xs)
    (ad : Addr) (m c : Nat) (news : List Value) (hx : a.eval x = .slice (some ad) m c) (hl : news.length = m * size) (hnews : ∀ j u, news[j]? = some u → w.cell? (ad.add j) = some u) (h1 : ∀ u ∈ news, u.oneCell' = true)
    (h63 : n + m ≤ 1000000) (hby2 : bytes ≤ 64) (hbase : base ≤ w.heap.size)
    (h : ∀ v' w', w'.ownsRow base e size v' (n + m) (xs ++ news) → w.grownBy w' v.ownBlock → (v'.ownBlock = v.ownBlock ∨ v'.ownBlock = some w.heap.size) → K (a.put o.dst v') w') :
    if Region.wanted o (yielded ops a.tmps) = true then Oper.wp P o a w K Q else E := by
  have hw : Region.wanted o (yielded ops a.tmps) = true := by simp [Region.wanted, hgd]
  rw [if_pos hw]
  have hb : (n + m) * bytes ≤ 140737488355328 := Nat.le_trans (Nat.mul_le_mul h63 hby2) (by omega)
  obtain ⟨v', w', hrun, q1, q2, q3⟩ := run_append_atk (P := P) w base t o.type e i z size bytes ht hi hz hsize hby hzs hsz v n xs hown ad m c news hl hnews h1 (by unfold maxLen; omega) hb hbase
  unfold Oper.wp execOp
  simp only [ho, resolve, invoke, builtin, Sem.run_bind, Sem.run_pure, Result.andThen_ok, List.map_toArray, List.map_cons, List.map_nil, hs, hx, hrun]
  exact h v' w' q1 q2 q3
theorem info_node : (Tryz.prog.info? 42).map (fun i => (i.zero, i.size, i.bytes)) = some (some (.agg #[.int .i64 0, .int .i64 0, .int .i64 0, .string ⟨#[]⟩, .slice none 0 0]), 5, 64) := by kernel_rfl

theorem news5 {w : World} (x : NM) (t : TypeId) : ∀ j u, x.cells[j]? = some u → (w.alloc (.cells x.cells.toArray t)).cell? ((⟨w.heap.size, 0, none⟩ : Addr).add j) = some u := by
  intro j u h
  have e : (⟨w.heap.size, 0, none⟩ : Addr).add j = ⟨w.heap.size, j, none⟩ := by unfold Addr.add; split <;> simp_all
  rw [e, World.cell?_alloc_mark]
  simpa using h

/-- What a node more makes of a parser in memory. -/
theorem ParX.add {w : World} {P : Nat} {src : ByteArray} {T : List Tok} {A : Option Addr} {cT : Nat} {R : Nat → Prop} {s : PS} {v : Value} {L : List NM} (h : ParX w P src T A cT R s v L) {w1 w5 : World} (k1 : Keeps (fun _ => False) w w1) (x : NM) (hx : RdI w1 x.a x.d.l) (X : Nat)
    (hX : 0 < x.d.l.length → ∃ off, x.a = some ⟨X, off, none⟩) (hR : ¬ R X) (hPX : P < X) {v5 : Value} (ho : w5.ownsRow 0 42 5 v5 (L.length + 1) (flatN L ++ x.cells)) (hg : w1.grownBy w5 v.ownBlock) (hb : v5.ownBlock = v.ownBlock ∨ v5.ownBlock = some w1.heap.size) :
    (w5.cell? ⟨P, 5, none⟩ = some v ∧ w5.frozen? ⟨P, 5, none⟩ = false) ∧
    ((w5.setCell ⟨P, 5, none⟩ v5).cell? ⟨P, 5, none⟩ = some v5 ∧ ∃ R', Par (w5.setCell ⟨P, 5, none⟩ v5) P src T R' { s with nd := s.nd ++ [x.d] } ∧ Keeps R w (w5.setCell ⟨P, 5, none⟩ v5) ∧ ∀ b, b < w.heap.size → R' b → R b ∨ b = X) := by
  have hP := h.lo
  have hs1 := k1.size
  -- the blocks
  have b5 : ∀ g, v5.ownBlock = some g → g = w1.heap.size ∨ v.ownBlock = some g := fun g hg => by
    rcases hb with e | e
    · exact .inr (e ▸ hg)
    · rw [e] at hg; cases hg; exact .inl rfl
  have keep5 : ∀ b, b < w1.heap.size → (∀ g, v.ownBlock = some g → b ≠ g) → w5.heap[b]? = w1.heap[b]? := fun b hb hn => hg.block b hb (fun e => hn b e.symm rfl)
  have cP : ∀ j, w5.cell? ⟨P, j, none⟩ = w.cell? ⟨P, j, none⟩ := fun j => (World.cell?_of_block (w := w1) (keep5 P (by omega) (fun g hg => fun e => (h.vb g hg).2 e.symm))).trans (k1.cell hP (fun h => h))
  have fP : ∀ j, w5.frozen? ⟨P, j, none⟩ = w.frozen? ⟨P, j, none⟩ := fun j => (World.frozen?_of_block (w := w1) (keep5 P (by omega) (fun g hg => fun e => (h.vb g hg).2 e.symm))).trans (k1.frozen hP (fun h => h))
  have c5 := (cP 5).trans h.c5
  have c5' : (w5.setCell ⟨P, 5, none⟩ v5).cell? ⟨P, 5, none⟩ = some v5 := cell_same w5 P 5 _ _ c5
  refine ⟨⟨c5, (fP 5).trans (h.fz 5)⟩, c5', ?_⟩
  have oth : ∀ j, 5 ≠ j → (w5.setCell ⟨P, 5, none⟩ v5).cell? ⟨P, j, none⟩ = w.cell? ⟨P, j, none⟩ := fun j e => (cell_other w5 5 j _ (.inl e)).trans (cP j)
  have kw6 : Keeps (fun b => b = P) w5 (w5.setCell ⟨P, 5, none⟩ v5) := (Keeps.refl (fun b => b = P) w5).setCell (p := ⟨P, 5, none⟩) (fun _ => rfl) _
  have k15 : Keeps (fun b => v.ownBlock = some b) w1 w5 := ⟨hg.os, hg.tape, hg.output, hg.size, fun b hb hn => hg.block b hb (fun e => hn e.symm)⟩
  have kall : Keeps (fun b => b = P ∨ v.ownBlock = some b) w (w5.setCell ⟨P, 5, none⟩ v5) :=
    ((k1.mono (T := fun b => b = P ∨ v.ownBlock = some b) (fun _ _ h => h.elim)).trans k15 (fun _ _ e => .inr e)).trans kw6 (fun _ _ e => .inl e)
  have sz5 : w1.heap.size ≤ w5.heap.size := hg.size
  have sz6 : (w5.setCell ⟨P, 5, none⟩ v5).heap.size = w5.heap.size := by simp
  have rdx : RdI w5 x.a x.d.l := hx.keep k15 (fun h0 b off e hv => by
    obtain ⟨off', e'⟩ := hX h0
    rw [e] at e'
    cases e'
    exact hR (h.vb X hv).1)
  refine ⟨fun b => R b ∨ (b = X ∧ 0 < x.d.l.length) ∨ v5.ownBlock = some b, ⟨A, cT, v5, L ++ [x], ?_⟩, kall.mono (fun b _ e => e.elim (fun e => e ▸ h.rp) (fun e => (h.vb b e).1)), fun b hb hr => ?_⟩
  · have lift : ∀ b, R b → b < w5.heap.size := fun b hb => Nat.lt_of_lt_of_le (h.lt b hb) (by omega)
    have nP : ∀ g, v5.ownBlock = some g → g ≠ P := fun g hg => by
      rcases b5 g hg with e | e
      · omega
      · exact (h.vb g e).2
    have nR : ∀ b, R b → b ≠ P → (∀ g, v.ownBlock = some g → b ≠ g) → ∀ g, v5.ownBlock = some g → b ≠ g := fun b hb _ hn g hg => by
      rcases b5 g hg with e | e
      · have := h.lt b hb; omega
      · exact hn g e
    have ltA : ∀ b, (R b ∨ (b = X ∧ 0 < x.d.l.length) ∨ v5.ownBlock = some b) → b < (w5.setCell ⟨P, 5, none⟩ v5).heap.size := fun b hb => by
      rw [sz6]
      rcases hb with hb | ⟨hb, h0⟩ | hb
      · exact lift b hb
      · obtain ⟨off, e⟩ := hX h0
        rw [hb]
        exact rdx.lt h0 e
      · exact (ho.lt b hb).2
    have ownA : (w5.setCell ⟨P, 5, none⟩ v5).ownsRow 0 42 5 v5 (L ++ [x]).length (flatN (L ++ [x])) := by
      rw [flatN_append, flatN_one, List.length_append]
      exact ownsRow_keep ho (fun g hg => kw6.block g (ho.lt g hg).2 (nP g hg))
    have lsA : ∀ y ∈ L ++ [x], RdI (w5.setCell ⟨P, 5, none⟩ v5) y.a y.d.l ∧ (0 < y.d.l.length → ∀ b off, y.a = some ⟨b, off, none⟩ → (R b ∨ (b = X ∧ 0 < x.d.l.length) ∨ v5.ownBlock = some b) ∧ b ≠ P ∧ ∀ g, v5.ownBlock = some g → b ≠ g) := fun y hy => by
      rcases List.mem_append.1 hy with hy | hy
      · exact ⟨(h.ls y hy).1.keep kall (fun h0 b off e hc => hc.elim ((h.ls y hy).2 h0 b off e).2.1 (fun hv => ((h.ls y hy).2 h0 b off e).2.2 b hv rfl)), fun h0 b off e => ⟨.inl ((h.ls y hy).2 h0 b off e).1, ((h.ls y hy).2 h0 b off e).2.1, nR b ((h.ls y hy).2 h0 b off e).1 ((h.ls y hy).2 h0 b off e).2.1 ((h.ls y hy).2 h0 b off e).2.2⟩⟩
      · rw [List.mem_singleton.1 hy]
        refine ⟨rdx.keep kw6 (fun h0 b off e hc => ?_), fun h0 b off e => ?_⟩
        · obtain ⟨off', e'⟩ := hX h0
          rw [e] at e'
          cases e'
          exact hR (hc ▸ h.rp)
        · obtain ⟨off', e'⟩ := hX h0
          rw [e] at e'
          cases e'
          refine ⟨.inr (.inl ⟨rfl, h0⟩), fun e => hR (e ▸ h.rp), fun g hg e2 => ?_⟩
          rcases b5 g hg with e3 | e3
          · have := hx.lt h0 e
            omega
          · exact hR (e2 ▸ (h.vb g e3).1)
    have erA : ErrP P (fun b => R b ∨ (b = X ∧ 0 < x.d.l.length) ∨ v5.ownBlock = some b) (w5.setCell ⟨P, 5, none⟩ v5) := h.er.keep kall (fun b hb => hb.elim (fun e => .inr (by omega)) (fun e => .inl (h.vb b e).1)) (fun b hb => by
      rcases hb with hb | ⟨hb, _⟩ | hb
      · exact .inl hb
      · exact .inr (by omega)
      · rcases b5 b hb with e | e
        · exact .inr (by omega)
        · exact .inl (h.vb b e).1)
    exact { c0 := (oth 0 (by omega)).trans h.c0, c1 := (oth 1 (by omega)).trans h.c1, c2 := (oth 2 (by omega)).trans h.c2, c3 := (oth 3 (by omega)).trans h.c3, c4 := (oth 4 (by omega)).trans h.c4, c5 := c5', c6 := (oth 6 (by omega)).trans h.c6, fz := fun j => (World.frozen?_setCell w5 _ _ _).trans ((fP j).trans (h.fz j)), lt := ltA, rp := .inl h.rp, tok := h.tok.keepR kall (fun _ b off e hc => hc.elim (h.tb b off e).2.1 (fun hv => (h.tb b off e).2.2 b hv rfl)), tb := fun b off e => ⟨.inl (h.tb b off e).1, (h.tb b off e).2.1, nR b (h.tb b off e).1 (h.tb b off e).2.1 (h.tb b off e).2.2⟩, own := ownA, vb := fun g hg => ⟨.inr (.inr hg), nP g hg⟩, nd := (by rw [List.map_append, h.nd]; rfl), ls := lsA, hi := h.hi, ok := h.ok, er := erA }
  · rcases hr with hr | ⟨hr, _⟩ | hr
    · exact .inl hr
    · exact .inr hr
    · rcases b5 b hr with e | e
      · omega
      · exact .inl (h.vb b e).1
set_option maxRecDepth 100000 in
set_option maxHeartbeats 8000000 in
theorem node_any {P : Nat} {src : ByteArray} {T : List Tok} {R : Nat → Prop} {s : PS} {w : World} (h : Par w P src T R s) (d : Nd) (a0 : Option Addr) (m0 c0 : Nat) (a : Option Addr) (c : Nat) (l : List Int) (hx : RdI w a l) (X : Nat) (hX : 0 < l.length → ∃ off, a = some ⟨X, off, none⟩) (hR : ¬ R X) (hPX : P < X) (hnd : s.nd.length < 100000) :
    Calls Tryz.prog 62 #[.pointer (some ⟨P, 0, none⟩), .agg #[.int .i64 d.k, .int .i64 d.ln, .int .i64 d.n, .string (ofL d.s), .slice a0 m0 c0], .slice a l.length c] w fun e w' => e = .returned (.int .i64 (s.nd.length : Int)) ∧ ∃ R', Par w' P src T R' { s with nd := s.nd ++ [{ d with l := l }] } ∧ Keeps R w w' ∧ ∀ b, b < w.heap.size → R' b → R b ∨ b = X := by
  obtain ⟨i0, hi, hz0, hz1, hz2⟩ := info_parts info_node
  obtain ⟨A, cT, v, L, h⟩ := h
  have H := Lib.hid h
  have hP := h.lo
  have c5 := h.c5
  have f5 := h.fz 5
  have hL : L.length = s.nd.length := by rw [← h.nd, List.length_map]
  obtain ⟨n, hn⟩ : ∃ n, n = L.length := ⟨_, rfl⟩
  rw [← hL, ← hn] at hnd ⊢
  have HN := Lib.hid hn
  have n1 : IntKind.i64.wrap (((n + 1 : Nat) : Int) - 1) = (n : Int) := by rw [show ((n + 1 : Nat) : Int) - 1 = (n : Int) by omega]; exact IntWalk.i64_in _ (by omega)
  obtain ⟨m, hm⟩ : ∃ m, m = l.length := ⟨_, rfl⟩
  rw [← hm]
  obtain ⟨dx, hdx⟩ : ∃ dx : Nd, dx = { d with l := l } := ⟨_, rfl⟩
  rw [← hdx]
  obtain ⟨x, hxx⟩ : ∃ x : NM, x = ⟨dx, a, c⟩ := ⟨_, rfl⟩
  have hxc : x.cells = [.int .i64 d.k, .int .i64 d.ln, .int .i64 d.n, .string (ofL d.s), .slice a m c] := by rw [hxx, hdx, hm]; rfl
  have XC := Lib.hid hxc
  have hADD : Hid (∀ w1 w5 v5, Keeps (fun _ => False) w w1 → w5.ownsRow 0 42 5 v5 (n + 1) (flatN L ++ x.cells) → w1.grownBy w5 v.ownBlock → (v5.ownBlock = v.ownBlock ∨ v5.ownBlock = some w1.heap.size) → (w5.cell? ⟨P, 5, none⟩ = some v ∧ w5.frozen? ⟨P, 5, none⟩ = false) ∧
      ((w5.setCell ⟨P, 5, none⟩ v5).cell? ⟨P, 5, none⟩ = some v5 ∧ ∃ R', Par (w5.setCell ⟨P, 5, none⟩ v5) P src T R' { s with nd := s.nd ++ [dx] } ∧ Keeps R w (w5.setCell ⟨P, 5, none⟩ v5) ∧ ∀ b, b < w.heap.size → R' b → R b ∨ b = X)) := Lib.hid fun w1 w5 v5 k1 ho hg hb => by
    have hr : RdI w1 x.a x.d.l := by rw [hxx, hdx]; exact hx.keep k1 (fun _ _ _ _ h => h)
    have := H.out.add k1 x hr X (by rw [hxx, hdx]; exact hX) hR hPX (by rw [← HN.out]; exact ho) hg hb
    rwa [show x.d = dx by rw [hxx]] at this
  have hOwn : Hid (∀ w1, Keeps (fun _ => False) w w1 → w1.ownsRow 0 42 5 v n (flatN L)) := Lib.hid fun w1 k => by
    rw [HN.out]
    exact (H.out.keepR k (fun _ _ h => h) (fun _ h => h.elim)).own
  obtain ⟨sx, hsx⟩ : ∃ sx, sx = ofL d.s := ⟨_, rfl⟩
  rw [← hsx] at XC ⊢
  obtain ⟨A0, c0', rfl⟩ := own_formk h.own
  rw [← hn] at c5 hADD hOwn
  clear hn hxx hxc hsx hx hX hR hL hdx hm h hPX
  go_enter Tryz.func62, Tryz.ntmps62
  go_upto_region 1 with fail
  have kb := Keeps.one w (.cells #[.int .i64 d.k, .int .i64 d.ln, .int .i64 d.n, .string sx, .slice a0 m0 c0] 42)
  have zb := Loc.new (w := w) (R := fun b => b = P) (by omega) [.int .i64 d.k, .int .i64 d.ln, .int .i64 d.n, .string sx, .slice a0 m0 c0] 42
  obtain ⟨B, hB⟩ : ∃ B, B = w.heap.size := ⟨_, rfl⟩
  obtain ⟨w1, hw1⟩ : ∃ w1, w1 = w.alloc (.cells #[.int .i64 d.k, .int .i64 d.ln, .int .i64 d.n, .string sx, .slice a0 m0 c0] 42) := ⟨_, rfl⟩
  have zb : Loc w1 (fun b => b = P) B [.int .i64 d.k, .int .i64 d.ln, .int .i64 d.n, .string sx, .slice a0 m0 c0] := by rw [hw1, hB]; exact zb
  rw [← hB]
  rw [← hw1] at kb ⊢
  have z0 := zb.cells 0 _ rfl
  have z1 := zb.cells 1 _ rfl
  have z2 := zb.cells 2 _ rfl
  have z3 := zb.cells 3 _ rfl
  have z4 := zb.cells 4 _ rfl
  have f4 := zb.fz 4
  have c5 := (kb.cell hP (fun h => h)).trans c5
  have f5 := (kb.frozen hP (fun h => h)).trans f5
  have hBl := zb.lt
  have hBP : B ≠ P := zb.out
  have HB := Lib.hid hB
  clear hw1 zb hB
  go_upto_region 2 with fail
  have k2 : Keeps (fun _ => False) w (w1.setCell ⟨B, 4, none⟩ (.slice a m c)) := kback (B := w.heap.size) ((kb.mono (T := fun b => w.heap.size ≤ b) (fun _ _ h => h.elim)).setCell (p := ⟨B, 4, none⟩) (fun _ => by show w.heap.size ≤ B; rw [HB.out]; exact Nat.le_refl _) _) rfl
  have y0 := (cell_other w1 (p := B) (q := B) 4 0 (.slice a m c) (.inl (by omega))).trans z0
  have y1 := (cell_other w1 (p := B) (q := B) 4 1 (.slice a m c) (.inl (by omega))).trans z1
  have y2 := (cell_other w1 (p := B) (q := B) 4 2 (.slice a m c) (.inl (by omega))).trans z2
  have y3 := (cell_other w1 (p := B) (q := B) 4 3 (.slice a m c) (.inl (by omega))).trans z3
  have y4 := cell_same w1 B 4 (.slice a m c) _ z4
  have d5 := (cell_other w1 (p := B) (q := P) 4 5 (.slice a m c) (.inr hBP)).trans c5
  obtain ⟨w2, hw2⟩ : ∃ w2, w2 = w1.setCell ⟨B, 4, none⟩ (.slice a m c) := ⟨_, rfl⟩
  have hw2s : w2.heap.size = w1.heap.size := by rw [hw2]; simp
  rw [← hw2] at k2 y0 y1 y2 y3 y4 d5 ⊢
  have hBl2 : B < w2.heap.size := by omega
  have hPl2 : P < w2.heap.size := Nat.lt_of_lt_of_le hP k2.size
  clear hw2 z0 z1 z2 z3 z4 f4 c5 f5 kb hw2s hBl
  refine wp_region_held_drew (S := fun w' => w'.cell? ⟨B, 0, none⟩ = some (.int .i64 d.k) ∧ w'.cell? ⟨B, 1, none⟩ = some (.int .i64 d.ln) ∧ w'.cell? ⟨B, 2, none⟩ = some (.int .i64 d.n) ∧ w'.cell? ⟨B, 3, none⟩ = some (.string sx) ∧ w'.cell? ⟨B, 4, none⟩ = some (.slice a m c)) (by kernel_rfl) (⟨y0, y1, y2, y3, y4⟩) (fun hHeld => ?_)
  have D0 := Lib.hid (And.intro d5 (And.intro hBl2 hPl2))
  have k3 := Lib.hid k2.drew
  have d5 : w2.drew.cell? ⟨P, 5, none⟩ = some (.slice A0 n c0') := d5
  clear y0 y1 y2 y3 y4
  have Y : Hid (w2.drew.cell? ⟨B, 0, none⟩ = some (.int .i64 d.k) ∧ w2.drew.cell? ⟨B, 1, none⟩ = some (.int .i64 d.ln) ∧ w2.drew.cell? ⟨B, 2, none⟩ = some (.int .i64 d.n) ∧ w2.drew.cell? ⟨B, 3, none⟩ = some (.string sx) ∧ w2.drew.cell? ⟨B, 4, none⟩ = some (.slice a m c)) := Lib.hid hHeld
  have hBO : Hid ((Value.slice A0 n c0').ownBlock ≠ some B) := Lib.hid (fun e => by have h1 := own_ltk (hOwn.out w (Keeps.refl _ _)) e; have h2 := HB.out; omega)
  refine wpAnyH_take (i := 0) (v := ?_) rfl (by kernel_rfl) (by kernel_rfl) (by kernel_rfl) (fun _ _ _ h => h) (Or.inl ⟨by rfl, ?_⟩) (by assumption) ?_
  rotate_left
  · (intro w' hSw; (try dsimp only at hSw); obtain ⟨z0, z1, z2, z3, z4⟩ := hSw; go_simp; (try (with_reducible rfl)))
  simp only [Act.put, List.getElem_toArray, List.getElem_cons_succ, List.getElem_cons_zero, List.setIfInBounds_toArray, List.set_cons_succ, List.set_cons_zero]
  refine wpAnyH_take (i := 1) (v := ?_) rfl (by kernel_rfl) (by kernel_rfl) (by kernel_rfl) (fun _ _ _ h => h) (Or.inl ⟨by rfl, ?_⟩) (by assumption) ?_
  rotate_left
  · (intro w' hSw; (try dsimp only at hSw); obtain ⟨z0, z1, z2, z3, z4⟩ := hSw; go_simp; (try (with_reducible rfl)))
  simp only [Act.put, List.getElem_toArray, List.getElem_cons_succ, List.getElem_cons_zero, List.setIfInBounds_toArray, List.set_cons_succ, List.set_cons_zero]
  refine wpAnyH_take (i := 2) (v := ?_) rfl (by kernel_rfl) (by kernel_rfl) (by kernel_rfl) (fun _ _ _ h => h) (Or.inl ⟨by rfl, ?_⟩) (by assumption) ?_
  rotate_left
  · (intro w' hSw; (try dsimp only at hSw); obtain ⟨z0, z1, z2, z3, z4⟩ := hSw; go_simp; (try (with_reducible rfl)))
  simp only [Act.put, List.getElem_toArray, List.getElem_cons_succ, List.getElem_cons_zero, List.setIfInBounds_toArray, List.set_cons_succ, List.set_cons_zero]
  refine wpAnyH_take (i := 3) (v := ?_) rfl (by kernel_rfl) (by kernel_rfl) (by kernel_rfl) (fun _ _ _ h => h) (Or.inl ⟨by rfl, ?_⟩) (by assumption) ?_
  rotate_left
  · (intro w' hSw; (try dsimp only at hSw); obtain ⟨z0, z1, z2, z3, z4⟩ := hSw; go_simp; (try (with_reducible rfl)))
  simp only [Act.put, List.getElem_toArray, List.getElem_cons_succ, List.getElem_cons_zero, List.setIfInBounds_toArray, List.set_cons_succ, List.set_cons_zero]
  refine wpAnyH_take (i := 5) (v := ?_) rfl (by kernel_rfl) (by kernel_rfl) (by kernel_rfl) (fun _ _ _ h => h) (Or.inl ⟨by rfl, ?_⟩) (by assumption) ?_
  rotate_left
  · (intro w' hSw; (try dsimp only at hSw); obtain ⟨z0, z1, z2, z3, z4⟩ := hSw; go_simp; (try (with_reducible rfl)))
  simp only [Act.put, List.getElem_toArray, List.getElem_cons_succ, List.getElem_cons_zero, List.setIfInBounds_toArray, List.set_cons_succ, List.set_cons_zero]
  refine wpAnyH_ready (rs := [4, 6]) (by kernel_rfl) (by simp) ?_
  refine AllReadyH.cons rfl (fun K hK => ?_) ?_
  · go_simp
    refine hK.out _ _ hHeld (fun hHeld => ?_)
    clear hK K
    refine wpAnyH_ready (rs := [6]) (by kernel_rfl) (by simp) ?_
    refine AllReadyH.cons rfl (fun K hK => ?_) AllReadyH.nil
    go_simp
    have KA := Keeps.one w2.drew (.cells #[.int .i64 d.k, .int .i64 d.ln, .int .i64 d.n, .string sx, .slice a m c] 42)
    refine hK.out _ _ ⟨(KA.cell D0.out.2.1 (fun h => h)).trans hHeld.1, (KA.cell D0.out.2.1 (fun h => h)).trans hHeld.2.1, (KA.cell D0.out.2.1 (fun h => h)).trans hHeld.2.2.1, (KA.cell D0.out.2.1 (fun h => h)).trans hHeld.2.2.2.1, (KA.cell D0.out.2.1 (fun h => h)).trans hHeld.2.2.2.2⟩ (fun hHeld => ?_)
    have d5 := (KA.cell D0.out.2.2 (fun h => h)).trans d5
    clear hK K KA
    refine wpAnyH_ready (rs := [7]) (by kernel_rfl) (by simp) ?_
    refine AllReadyH.cons rfl (fun K hK => ?_) AllReadyH.nil
    have K4 := Lib.hid (k3.out.alloc (.cells #[.int .i64 d.k, .int .i64 d.ln, .int .i64 d.n, .string sx, .slice a m c] 42))
    refine step_append_atk (by rfl) (.tmp 13) (.tmp 15) 24 (by rfl) 0 42 i0 _ 5 64 Tryz.underlying24 hi hz0 hz1 hz2 (by rfl) (by omega) (.slice A0 n c0') n (flatN L) (by rfl) (hOwn.out _ K4.out) ⟨w2.drew.heap.size, 0, none⟩ 1 1 x.cells (by rfl) (by rw [XC.out]; rfl) (by have e := XC.out; have hh := news5 (w := w2.drew) x 42; rw [e] at hh ⊢; exact hh) (NM.one x) (by omega) (by omega) (Nat.zero_le _) ?_
    intro v5 w5 h5 g5 b5
    obtain ⟨A5, c5', rfl⟩ := own_formk h5
    have hm := hADD.out _ _ _ K4.out h5 g5 b5
    have HM := Lib.hid hm.2.2
    have e5 := hm.1.1
    have g5' := hm.1.2
    have e6 := hm.2.1
    have ky : ∀ k, w5.cell? ⟨B, k, none⟩ = w2.drew.cell? ⟨B, k, none⟩ := fun k => (World.cell?_of_block (g5.block B (by show B < (World.alloc _ _).heap.size; rw [World.size_alloc]; exact Nat.lt_succ_of_lt D0.out.2.1) (fun e => hBO.out e.symm))).trans ((Keeps.one w2.drew _).cell D0.out.2.1 (fun h => h))
    refine hK.out _ _ ⟨(ky 0).trans Y.out.1, (ky 1).trans Y.out.2.1, (ky 2).trans Y.out.2.2.1, (ky 3).trans Y.out.2.2.2.1, (ky 4).trans Y.out.2.2.2.2⟩ (fun hHeld => ?_)
    clear hK K hm h5 g5 b5 ky K4
    simp only [Act.put, List.getElem_toArray, List.getElem_cons_succ, List.getElem_cons_zero, List.setIfInBounds_toArray, List.set_cons_succ, List.set_cons_zero]
    refine wpAnyH_take (i := 8) (v := ?_) rfl (by kernel_rfl) (by kernel_rfl) (by kernel_rfl) (fun _ _ _ h => h) (Or.inl ⟨by rfl, ?_⟩) (by assumption) ?_
    rotate_left
    · (intro w' hSw; (try dsimp only at hSw); obtain ⟨z0, z1, z2, z3, z4⟩ := hSw; go_simp; (try (with_reducible rfl)))
    simp only [Act.put, List.getElem_toArray, List.getElem_cons_succ, List.getElem_cons_zero, List.setIfInBounds_toArray, List.set_cons_succ, List.set_cons_zero]
    refine wpAnyH_take (i := 9) (v := ?_) rfl (by kernel_rfl) (by kernel_rfl) (by kernel_rfl) (fun _ _ _ h => h) (Or.inl ⟨by rfl, ?_⟩) (by assumption) ?_
    rotate_left
    · (intro w' hSw; (try dsimp only at hSw); obtain ⟨z0, z1, z2, z3, z4⟩ := hSw; go_simp; (try (with_reducible rfl)))
    simp only [Act.put, List.getElem_toArray, List.getElem_cons_succ, List.getElem_cons_zero, List.setIfInBounds_toArray, List.set_cons_succ, List.set_cons_zero]
    refine wpAnyH_ready (rs := [10]) (by kernel_rfl) (by simp) ?_
    refine AllReadyH.cons rfl (fun K hK => ?_) AllReadyH.nil
    go_simp
    have hk0 : ∀ k, (w5.setCell ⟨P, 5, none⟩ (.slice A5 (n + 1) c5')).cell? ⟨B, k, none⟩ = w5.cell? ⟨B, k, none⟩ := fun k => cell_other w5 (p := P) (q := B) 5 k _ (.inr (fun e => hBP e.symm))
    refine hK.out _ _ ⟨(hk0 0).trans hHeld.1, (hk0 1).trans hHeld.2.1, (hk0 2).trans hHeld.2.2.1, (hk0 3).trans hHeld.2.2.2.1, (hk0 4).trans hHeld.2.2.2.2⟩ (fun hHeld => ?_)
    clear hK K hk0 e5 g5'
    refine wpAnyH_done (by kernel_rfl) ?_ _
    clear hHeld
    generalize w5.setCell ⟨P, 5, none⟩ (.slice A5 (n + 1) c5') = w6 at e6 HM ⊢
    go_wp2
    go_ret
    exact ⟨rfl, HM.out⟩
  refine AllReadyH.cons rfl (fun K hK => ?_) AllReadyH.nil
  go_simp
  have KA := Keeps.one w2.drew (.cells #[.int .i64 d.k, .int .i64 d.ln, .int .i64 d.n, .string sx, .slice a m c] 42)
  refine hK.out _ _ ⟨(KA.cell D0.out.2.1 (fun h => h)).trans hHeld.1, (KA.cell D0.out.2.1 (fun h => h)).trans hHeld.2.1, (KA.cell D0.out.2.1 (fun h => h)).trans hHeld.2.2.1, (KA.cell D0.out.2.1 (fun h => h)).trans hHeld.2.2.2.1, (KA.cell D0.out.2.1 (fun h => h)).trans hHeld.2.2.2.2⟩ (fun hHeld => ?_)
  have d5 := (KA.cell D0.out.2.2 (fun h => h)).trans d5
  clear hK K KA
  refine wpAnyH_ready (rs := [4]) (by kernel_rfl) (by simp) ?_
  refine AllReadyH.cons rfl (fun K hK => ?_) AllReadyH.nil
  go_simp
  refine hK.out _ _ hHeld (fun hHeld => ?_)
  clear hK K
  refine wpAnyH_ready (rs := [7]) (by kernel_rfl) (by simp) ?_
  refine AllReadyH.cons rfl (fun K hK => ?_) AllReadyH.nil
  have K4 := Lib.hid (k3.out.alloc (.cells #[.int .i64 d.k, .int .i64 d.ln, .int .i64 d.n, .string sx, .slice a m c] 42))
  refine step_append_atk (by rfl) (.tmp 13) (.tmp 15) 24 (by rfl) 0 42 i0 _ 5 64 Tryz.underlying24 hi hz0 hz1 hz2 (by rfl) (by omega) (.slice A0 n c0') n (flatN L) (by rfl) (hOwn.out _ K4.out) ⟨w2.drew.heap.size, 0, none⟩ 1 1 x.cells (by rfl) (by rw [XC.out]; rfl) (by have e := XC.out; have hh := news5 (w := w2.drew) x 42; rw [e] at hh ⊢; exact hh) (NM.one x) (by omega) (by omega) (Nat.zero_le _) ?_
  intro v5 w5 h5 g5 b5
  obtain ⟨A5, c5', rfl⟩ := own_formk h5
  have hm := hADD.out _ _ _ K4.out h5 g5 b5
  have HM := Lib.hid hm.2.2
  have e5 := hm.1.1
  have g5' := hm.1.2
  have e6 := hm.2.1
  have ky : ∀ k, w5.cell? ⟨B, k, none⟩ = w2.drew.cell? ⟨B, k, none⟩ := fun k => (World.cell?_of_block (g5.block B (by show B < (World.alloc _ _).heap.size; rw [World.size_alloc]; exact Nat.lt_succ_of_lt D0.out.2.1) (fun e => hBO.out e.symm))).trans ((Keeps.one w2.drew _).cell D0.out.2.1 (fun h => h))
  refine hK.out _ _ ⟨(ky 0).trans Y.out.1, (ky 1).trans Y.out.2.1, (ky 2).trans Y.out.2.2.1, (ky 3).trans Y.out.2.2.2.1, (ky 4).trans Y.out.2.2.2.2⟩ (fun hHeld => ?_)
  clear hK K hm h5 g5 b5 ky K4
  simp only [Act.put, List.getElem_toArray, List.getElem_cons_succ, List.getElem_cons_zero, List.setIfInBounds_toArray, List.set_cons_succ, List.set_cons_zero]
  refine wpAnyH_take (i := 8) (v := ?_) rfl (by kernel_rfl) (by kernel_rfl) (by kernel_rfl) (fun _ _ _ h => h) (Or.inl ⟨by rfl, ?_⟩) (by assumption) ?_
  rotate_left
  · (intro w' hSw; (try dsimp only at hSw); obtain ⟨z0, z1, z2, z3, z4⟩ := hSw; go_simp; (try (with_reducible rfl)))
  simp only [Act.put, List.getElem_toArray, List.getElem_cons_succ, List.getElem_cons_zero, List.setIfInBounds_toArray, List.set_cons_succ, List.set_cons_zero]
  refine wpAnyH_take (i := 9) (v := ?_) rfl (by kernel_rfl) (by kernel_rfl) (by kernel_rfl) (fun _ _ _ h => h) (Or.inl ⟨by rfl, ?_⟩) (by assumption) ?_
  rotate_left
  · (intro w' hSw; (try dsimp only at hSw); obtain ⟨z0, z1, z2, z3, z4⟩ := hSw; go_simp; (try (with_reducible rfl)))
  simp only [Act.put, List.getElem_toArray, List.getElem_cons_succ, List.getElem_cons_zero, List.setIfInBounds_toArray, List.set_cons_succ, List.set_cons_zero]
  refine wpAnyH_ready (rs := [10]) (by kernel_rfl) (by simp) ?_
  refine AllReadyH.cons rfl (fun K hK => ?_) AllReadyH.nil
  go_simp
  have hk0 : ∀ k, (w5.setCell ⟨P, 5, none⟩ (.slice A5 (n + 1) c5')).cell? ⟨B, k, none⟩ = w5.cell? ⟨B, k, none⟩ := fun k => cell_other w5 (p := P) (q := B) 5 k _ (.inr (fun e => hBP e.symm))
  refine hK.out _ _ ⟨(hk0 0).trans hHeld.1, (hk0 1).trans hHeld.2.1, (hk0 2).trans hHeld.2.2.1, (hk0 3).trans hHeld.2.2.2.1, (hk0 4).trans hHeld.2.2.2.2⟩ (fun hHeld => ?_)
  clear hK K hk0 e5 g5'
  refine wpAnyH_done (by kernel_rfl) ?_ _
  clear hHeld
  generalize w5.setCell ⟨P, 5, none⟩ (.slice A5 (n + 1) c5') = w6 at e6 HM ⊢
  go_wp2
  go_ret
  exact ⟨rfl, HM.out⟩
end Go.Proofs.YtgelggdgbmldiaaGreatDoor

namespace Go.Proofs.YtgelggdgbmldiaaGreatDoor
open Go Go.RowKit Go.Shelf
set_option linter.unusedVariables false
set_option linter.unusedSimpArgs false

theorem ask_out {α β : Type} {f : PS → α} {g : α → PM β} {s : PS} {r : β × PS} (h : (ask f >>= g) s = some r) : ∃ a, a = f s ∧ g a s = some r := ⟨f s, rfl, h⟩
theorem mod_out {β : Type} {f : PS → PS} {g : Unit → PM β} {s : PS} {r : β × PS} (h : (mod f >>= g) s = some r) : ∃ s1, s1 = f s ∧ g () s1 = some r := ⟨f s, rfl, h⟩
theorem mod_end {f : PS → PS} {s : PS} {r : Unit × PS} (h : mod f s = some r) : r.2 = f s := by have := Option.some.inj h; rw [← this]
theorem node_out {n : Nd} {l : List Int} {s s' : PS} {r : Int} (h : nodeM n l s = some (r, s')) : s.nd.length < 100000 ∧ r = (s.nd.length : Int) ∧ s' = { s with nd := s.nd ++ [{ n with l := l }] } := by
  unfold nodeM at h
  split at h
  · rename_i hl
    injection h with h
    injection h with h1 h2
    exact ⟨hl, h1.symm, h2.symm⟩
  · cases h
theorem deep_out {d : Int} {s s' : PS} {u : Unit} (h : deepS d s = some (u, s')) : (-1000000 < s.dp ∧ s.dp < 1000000) ∧ s' = { s with dp := s.dp + d } := by
  unfold deepS at h
  split at h
  · rename_i hl
    injection h with h
    injection h with h1 h2
    exact ⟨hl, h2.symm⟩
  · cases h
theorem nextS_dp (T : List Tok) (s : PS) : (nextS T s).dp = s.dp := by unfold nextS; split <;> rfl
theorem failS_dp (T : List Tok) (e : Nat) (s : PS) : (failS T e s).dp = s.dp := by unfold failS; split <;> rfl
theorem wantS_dp (T : List Tok) (x : List UInt8) (s : PS) : (wantS T x s).dp = s.dp := by
  unfold wantS
  split
  · exact nextS_dp T s
  · exact failS_dp T 20 s

/-- The contract of a function of the parser's that tells a number. -/
def ExC (P : Nat) (src : ByteArray) (T : List Tok) (f : Nat) (m : PM Int) : Prop :=
  ∀ (s : PS) (a : Int) (s1 : PS) (R : Nat → Prop) (w : World), m s = some (a, s1) → Par w P src T R s → Calls Tryz.prog f #[.pointer (some ⟨P, 0, none⟩)] w (Post P src T R w (.int .i64 a) s1)

theorem is_at1 {P : Nat} {src : ByteArray} {T : List Tok} {R : Nat → Prop} {s : PS} {w : World} (h : Par w P src T R s) (x : ByteArray) {b : Bool} (hb : b = isS T [x.data.toList] s) :
    Calls Tryz.prog 31 #[.pointer (some ⟨P, 0, none⟩), .slice (some ⟨w.heap.size, 0, none⟩) 1 1] (w.alloc (.cells #[.string x] 9)) fun e w' => e = .returned (.bool b) ∧ Keeps (fun _ => False) w w' := by
  rw [hb]
  exact is_one h x _
theorem is_at2 {P : Nat} {src : ByteArray} {T : List Tok} {R : Nat → Prop} {s : PS} {w : World} (h : Par w P src T R s) (x y : ByteArray) {b : Bool} (hb : b = isS T [x.data.toList, y.data.toList] s) :
    Calls Tryz.prog 31 #[.pointer (some ⟨P, 0, none⟩), .slice (some ⟨w.heap.size, 0, none⟩) 2 2] (w.alloc (.cells #[.string x, .string y] 9)) fun e w' => e = .returned (.bool b) ∧ Keeps (fun _ => False) w w' := by
  rw [hb]
  exact (is_any (h.keep (Keeps.one w _)) [x, y] w.heap.size 0 2 rfl (by omega) (fun j hj => by
    rw [Nat.zero_add, World.cell?_alloc_mark w #[.string x, .string y] 9 (0, 0) j]
    match j, hj with
    | 0, _ => rfl
    | 1, _ => rfl)).mono fun e w' ⟨h1, k⟩ => ⟨h1, (Keeps.one w _).trans k (fun _ _ h => h)⟩
theorem is_at4 {P : Nat} {src : ByteArray} {T : List Tok} {R : Nat → Prop} {s : PS} {w : World} (h : Par w P src T R s) (x y z u : ByteArray) {b : Bool} (hb : b = isS T [x.data.toList, y.data.toList, z.data.toList, u.data.toList] s) :
    Calls Tryz.prog 31 #[.pointer (some ⟨P, 0, none⟩), .slice (some ⟨w.heap.size, 0, none⟩) 4 4] (w.alloc (.cells #[.string x, .string y, .string z, .string u] 9)) fun e w' => e = .returned (.bool b) ∧ Keeps (fun _ => False) w w' := by
  rw [hb]
  exact (is_any (h.keep (Keeps.one w _)) [x, y, z, u] w.heap.size 0 4 rfl (by omega) (fun j hj => by
    rw [Nat.zero_add, World.cell?_alloc_mark w #[.string x, .string y, .string z, .string u] 9 (0, 0) j]
    match j, hj with
    | 0, _ => rfl
    | 1, _ => rfl
    | 2, _ => rfl
    | 3, _ => rfl)).mono fun e w' ⟨h1, k⟩ => ⟨h1, (Keeps.one w _).trans k (fun _ _ h => h)⟩
theorem line_at {P : Nat} {src : ByteArray} {T : List Tok} {R : Nat → Prop} {s : PS} {w : World} (hsz : src.size ≤ 1000) (h : Par w P src T R s) {ln : Int} (hl : ln = lineS src.data.toList T s) :
    Calls Tryz.prog 28 #[.pointer (some ⟨P, 0, none⟩)] w fun e w' => e = .returned (.int .i64 ln) ∧ Keeps (fun _ => False) w w' := by
  rw [hl]
  exact pline_any hsz h
theorem now_at {P : Nat} {src : ByteArray} {T : List Tok} {R : Nat → Prop} {s : PS} {w : World} (h : Par w P src T R s) {t : Tok} (ht : t = tokA T s) :
    Calls Tryz.prog 15 #[.pointer (some ⟨P, 0, none⟩)] w fun e w' => e = .returned (.agg #[.int .i64 (t.k : Int), .string (ofL t.x), .int .i64 (t.p : Int)]) ∧ Keeps (fun _ => False) w w' := by
  rw [ht]
  exact now_any h
theorem next_at {P : Nat} {src : ByteArray} {T : List Tok} {R : Nat → Prop} {s s1 : PS} {w : World} (h : Par w P src T R s) (e : s1 = nextS T s) : Calls Tryz.prog 33 #[.pointer (some ⟨P, 0, none⟩)] w (Post P src T R w (.tuple #[]) s1) := by
  rw [e]
  exact next_any h
theorem want_at {P : Nat} {src : ByteArray} {T : List Tok} {R : Nat → Prop} {s s1 : PS} {w : World} (h : Par w P src T R s) (x : ByteArray) (e : s1 = wantS T x.data.toList s) : Calls Tryz.prog 29 #[.pointer (some ⟨P, 0, none⟩), .string x] w (Post P src T R w (.tuple #[]) s1) := by
  rw [e]
  exact want_any h x
theorem fail_at {P : Nat} {src : ByteArray} {T : List Tok} {R : Nat → Prop} {s s1 : PS} {w : World} (h : Par w P src T R s) (k : Nat) (e : s1 = failS T k s) : Calls Tryz.prog 57 #[.pointer (some ⟨P, 0, none⟩), .int .i64 (k : Int)] w (Post P src T R w (.tuple #[]) s1) := by
  rw [e]
  exact fail_any h k
theorem name_at {P : Nat} {src : ByteArray} {T : List Tok} {R : Nat → Prop} {s s1 : PS} {w : World} {x : List UInt8} (h : Par w P src T R s) (e : s1 = nameS T s) (ex : x = nameX T s) : Calls Tryz.prog 30 #[.pointer (some ⟨P, 0, none⟩)] w (Post P src T R w (.string (ofL x)) s1) := by
  rw [e, ex]
  exact pname_any h

theorem Loc.set {w : World} {R : Nat → Prop} {X : Nat} {vs : List Value} (h : Loc w R X vs) (j : Nat) (u : Value) (hj : j < vs.length) : Loc (w.setCell ⟨X, j, none⟩ u) R X (vs.set j u) := by
  refine ⟨by simpa using h.lt, h.out, fun k v hv => ?_, fun k => (World.frozen?_setCell w _ _ _).trans (h.fz k)⟩
  by_cases e : j = k
  · subst e
    rw [List.getElem?_set_self hj] at hv
    cases hv
    exact cell_same w X j u _ (h.cells j vs[j] (List.getElem?_eq_getElem hj))
  · rw [List.getElem?_set_ne e] at hv
    exact (cell_other w j k u (.inl e)).trans (h.cells k v hv)
set_option maxRecDepth 100000 in
set_option maxHeartbeats 8000000 in
theorem shut_any {P : Nat} {src : ByteArray} {T : List Tok} {R : Nat → Prop} {s s1 : PS} {w : World} (h : Par w P src T R s) (x : ByteArray) {u : Unit} (hm : shutM T x.data.toList s = some (u, s1)) : Calls Tryz.prog 61 #[.pointer (some ⟨P, 0, none⟩), .string x] w (Post P src T R w (.tuple #[]) s1) := by
  have H := Lib.hid h
  obtain ⟨s2, e2, hm⟩ := mod_out hm
  obtain ⟨hd, e1⟩ := deep_out hm
  have WC := Lib.hid (want_at h x e2)
  have E1 := Lib.hid e1
  clear hm e1 e2 h
  go_enter Tryz.func61, Tryz.ntmps61
  go_wp2_with fail
  refine WC.out.mono ?_
  rintro e w1 ⟨rfl, R1, hp, hf⟩
  have hs := hp.see
  have c6 := hs.c6
  have f6 := hs.fz 6
  have hw := IntWalk.i64_in (s2.dp - 1) (by omega)
  have hset := hp.setDp (s2.dp - 1)
  have HF : Hid (Post P src T R w (.tuple #[]) s1 (.returned (.tuple #[])) (w1.setCell ⟨P, 6, none⟩ (.int .i64 (s2.dp - 1)))) := Lib.hid ⟨rfl, R1, by rw [E1.out]; exact hset.1, hf.trans hset.2⟩
  generalize s2.dp = dp at c6 hw HF hd
  clear hs hset hp hf WC E1 hd H
  go_wp2_with fail
  exact bodyPost_end (v := .tuple #[]) (by simp [results, Tryz.results61, go_sem]) rfl HF.out
set_option maxRecDepth 100000 in
set_option maxHeartbeats 8000000 in
theorem open_any {P : Nat} {src : ByteArray} {T : List Tok} {R : Nat → Prop} {s s1 : PS} {w : World} (h : Par w P src T R s) (x : ByteArray) {u : Unit} (hm : openM T x.data.toList s = some (u, s1)) : Calls Tryz.prog 59 #[.pointer (some ⟨P, 0, none⟩), .string x] w (Post P src T R w (.tuple #[]) s1) := by
  have H := Lib.hid h
  obtain ⟨s3, e3, hm⟩ := mod_out hm
  obtain ⟨hd, e1⟩ := deep_out hm
  have hdp : s3.dp = s.dp := by
    rw [e3]
    unfold openS
    rw [wantS_dp]
    split
    · exact failS_dp T 21 s
    · rfl
  have E1 := Lib.hid e1
  obtain ⟨b, hb⟩ : ∃ b, b = isS T [x.data.toList] s := ⟨_, rfl⟩
  have IC := Lib.hid (is_at1 h x hb)
  have c6 := h.see.c6
  unfold openS at e3
  rw [← hb] at e3
  clear hm e1 hb h
  cases b with
  | false =>
    have E3 : Hid (s3 = wantS T x.data.toList s) := Lib.hid (by rw [e3]; rfl)
    clear e3 hdp c6
    go_enter Tryz.func59, Tryz.ntmps59
    go_wp2_with fail
    refine IC.out.mono ?_
    rintro e w1 ⟨rfl, k1⟩
    have WC := Lib.hid (want_at (H.out.keep k1) x E3.out)
    clear IC E3
    go_wp2_with fail
    refine WC.out.mono ?_
    rintro e w2 ⟨rfl, R1, hp, hf⟩
    have HP2 := Lib.hid hp
    have HF2 := Lib.hid (((Fr.refl R w).keeps k1).trans hf)
    clear WC hp hf k1
    have hs := HP2.out.see
    have c6 := hs.c6
    have f6 := hs.fz 6
    have hw := IntWalk.i64_in (s3.dp + 1) (by omega)
    have hset := HP2.out.setDp (s3.dp + 1)
    have HF : Hid (Post P src T R w (.tuple #[]) s1 (.returned (.tuple #[])) (w2.setCell ⟨P, 6, none⟩ (.int .i64 (s3.dp + 1)))) := Lib.hid ⟨rfl, _, by rw [E1.out]; exact hset.1, HF2.out.trans hset.2⟩
    generalize s3.dp = dp at c6 hw HF hd
    clear hs hset HP2 HF2 E1 hd H
    go_wp2_with fail
    exact bodyPost_end (v := .tuple #[]) (by simp [results, Tryz.results59, go_sem]) rfl HF.out
  | true =>
    by_cases h16 : 16 ≤ s.dp
    · have d16 : decide (16 ≤ s.dp) = true := decide_eq_true h16
      obtain ⟨s4, e4⟩ : ∃ s4, s4 = failS T 21 s := ⟨_, rfl⟩
      have E3 : Hid (s3 = wantS T x.data.toList s4) := Lib.hid (by rw [e3, d16, e4]; rfl)
      have E4 := Lib.hid e4
      clear e3 e4 hdp
      go_enter Tryz.func59, Tryz.ntmps59
      go_wp2_with fail
      refine IC.out.mono ?_
      rintro e w1 ⟨rfl, k1⟩
      have c6 := (H.out.keep k1).see.c6
      have FC := Lib.hid (fail_at (H.out.keep k1) 21 E4.out)
      clear IC
      go_wp2_with fail
      refine FC.out.mono ?_
      rintro e w3 ⟨rfl, R3, hp3, hf3⟩
      have WC := Lib.hid (want_at hp3 x E3.out)
      clear FC
      go_wp2_with fail
      refine WC.out.mono ?_
      rintro e w2 ⟨rfl, R1, hp, hf⟩
      have HP2 := Lib.hid hp
      have HF2 := Lib.hid ((((Fr.refl R w).keeps k1).trans hf3).trans hf)
      clear WC hp hf k1 hf3 hp3 c6 h16 d16 E3 E4
      have hs := HP2.out.see
      have c6 := hs.c6
      have f6 := hs.fz 6
      have hw := IntWalk.i64_in (s3.dp + 1) (by omega)
      have hset := HP2.out.setDp (s3.dp + 1)
      have HF : Hid (Post P src T R w (.tuple #[]) s1 (.returned (.tuple #[])) (w2.setCell ⟨P, 6, none⟩ (.int .i64 (s3.dp + 1)))) := Lib.hid ⟨rfl, _, by rw [E1.out]; exact hset.1, HF2.out.trans hset.2⟩
      generalize s3.dp = dp at c6 hw HF hd
      clear hs hset HP2 HF2 E1 hd H
      go_wp2_with fail
      exact bodyPost_end (v := .tuple #[]) (by simp [results, Tryz.results59, go_sem]) rfl HF.out
    · have d16 : decide (16 ≤ s.dp) = false := decide_eq_false h16
      have E3 : Hid (s3 = wantS T x.data.toList s) := Lib.hid (by rw [e3, d16]; rfl)
      clear e3 hdp c6
      go_enter Tryz.func59, Tryz.ntmps59
      go_wp2_with fail
      refine IC.out.mono ?_
      rintro e w1 ⟨rfl, k1⟩
      have WC := Lib.hid (want_at (H.out.keep k1) x E3.out)
      have c6 := (H.out.keep k1).see.c6
      clear IC E3
      go_wp2_with fail
      refine WC.out.mono ?_
      rintro e w2 ⟨rfl, R1, hp, hf⟩
      have HP2 := Lib.hid hp
      have HF2 := Lib.hid (((Fr.refl R w).keeps k1).trans hf)
      clear WC hp hf k1 c6 h16 d16
      have hs := HP2.out.see
      have c6 := hs.c6
      have f6 := hs.fz 6
      have hw := IntWalk.i64_in (s3.dp + 1) (by omega)
      have hset := HP2.out.setDp (s3.dp + 1)
      have HF : Hid (Post P src T R w (.tuple #[]) s1 (.returned (.tuple #[])) (w2.setCell ⟨P, 6, none⟩ (.int .i64 (s3.dp + 1)))) := Lib.hid ⟨rfl, _, by rw [E1.out]; exact hset.1, HF2.out.trans hset.2⟩
      generalize s3.dp = dp at c6 hw HF hd
      clear hs hset HP2 HF2 E1 hd H
      go_wp2_with fail
      exact bodyPost_end (v := .tuple #[]) (by simp [results, Tryz.results59, go_sem]) rfl HF.out
end Go.Proofs.YtgelggdgbmldiaaGreatDoor

namespace Go.Proofs.YtgelggdgbmldiaaGreatDoor
open Go Go.RowKit Go.Shelf
set_option linter.unusedVariables false
set_option linter.unusedSimpArgs false
set_option maxRecDepth 100000 in
set_option maxHeartbeats 8000000 in
theorem type_any (x : ByteArray) (w : World) : Calls Tryz.prog 11 #[.string x] w fun e w' => e = .returned (.int .i64 (typeN x.data.toList)) ∧ w' = w := by
  have key : ∀ (b1 b2 b3 b4 : Bool), b1 = decide (x.data.toList = [105, 110, 116]) → b2 = decide (x.data.toList = [98, 111, 111, 108]) → b3 = decide (x.data.toList = [116, 101, 120, 116]) → b4 = decide (x.data.toList = [108, 105, 115, 116]) → typeN x.data.toList = (if b1 then 1 else if b2 then 2 else if b3 then 3 else if b4 then 4 else 0) := by
    rintro _ _ _ _ rfl rfl rfl rfl
    unfold typeN
    simp only [decide_eq_true_eq]
  obtain ⟨b1, e1⟩ : ∃ b, b = decide (x.data.toList = [105, 110, 116]) := ⟨_, rfl⟩
  obtain ⟨b2, e2⟩ : ∃ b, b = decide (x.data.toList = [98, 111, 111, 108]) := ⟨_, rfl⟩
  obtain ⟨b3, e3⟩ : ∃ b, b = decide (x.data.toList = [116, 101, 120, 116]) := ⟨_, rfl⟩
  obtain ⟨b4, e4⟩ : ∃ b, b = decide (x.data.toList = [108, 105, 115, 116]) := ⟨_, rfl⟩
  rw [key b1 b2 b3 b4 e1 e2 e3 e4]
  have q1 : (x.toList == [105, 110, 116]) = b1 := by rw [e1]; exact word_beq x _
  have q2 : (x.toList == [98, 111, 111, 108]) = b2 := by rw [e2]; exact word_beq x _
  have q3 : (x.toList == [116, 101, 120, 116]) = b3 := by rw [e3]; exact word_beq x _
  have q4 : (x.toList == [108, 105, 115, 116]) = b4 := by rw [e4]; exact word_beq x _
  clear key e1 e2 e3 e4
  cases b1 with
  | true =>
    go_enter Tryz.func11, Tryz.ntmps11
    go_wp2
    go_ret
    exact ⟨rfl, rfl⟩
  | false =>
    cases b2 with
    | true =>
      go_enter Tryz.func11, Tryz.ntmps11
      go_wp2
      go_ret
      exact ⟨rfl, rfl⟩
    | false =>
      cases b3 with
      | true =>
        go_enter Tryz.func11, Tryz.ntmps11
        go_wp2
        go_ret
        exact ⟨rfl, rfl⟩
      | false =>
        cases b4 with
        | true =>
          go_enter Tryz.func11, Tryz.ntmps11
          go_wp2
          go_ret
          exact ⟨rfl, rfl⟩
        | false =>
          go_enter Tryz.func11, Tryz.ntmps11
          go_wp2
          go_ret
          exact ⟨rfl, rfl⟩
set_option maxRecDepth 100000 in
set_option maxHeartbeats 8000000 in
theorem calls_any {P : Nat} {src : ByteArray} {T : List Tok} {R : Nat → Prop} {s : PS} {w : World} (h : Par w P src T R s) : Calls Tryz.prog 79 #[.pointer (some ⟨P, 0, none⟩)] w fun e w' => e = .returned (.bool (callsS T s)) ∧ Keeps (fun _ => False) w w' := by
  have H := Lib.hid h
  have NC := Lib.hid (now_at h (t := tokA T s) rfl)
  obtain ⟨k, hk⟩ : ∃ k : Int, k = ((tokA T s).k : Int) := ⟨_, rfl⟩
  have F0 : ∀ w, Sem.run Tryz.prog (Instr.field 38 (.agg #[.int .i64 k, .string (ofL (tokA T s).x), .int .i64 ((tokA T s).p : Int)]) 0) w = .ok (.int .i64 k) w := fun w => tok_field0 _ _ _ w
  rw [← hk] at NC
  by_cases h3 : k = 3
  · have hk3 : (tokA T s).k = 3 := by omega
    have hmore := h.more (by rw [hk3]; decide)
    have hE : callsS T s = (decide (((T.getD (s.i + 1) default).k : Int) = 5) && decide ((T.getD (s.i + 1) default).x = [40])) := by
      unfold callsS
      rw [decide_eq_true hk3, Bool.true_and]
      congr 1
      exact decide_eq_decide.2 (by omega)
    rw [hE]
    have hle := h.ok.le
    obtain ⟨A, cT, v, L, h⟩ := h
    have hP := h.lo
    obtain ⟨b, off, rfl, hc⟩ := h.tok (by omega)
    obtain ⟨t0, t1, t2⟩ := hc (s.i + 1) (by omega)
    have c1 := h.c1
    have c2 := h.c2
    obtain ⟨n, hn⟩ : ∃ n, n = T.length := ⟨_, rfl⟩
    rw [← hn] at c1 hmore hle
    generalize ((T.getD (s.i + 1) default).k : Int) = tk at t0 ⊢
    generalize (T.getD (s.i + 1) default).x = tx at t1 ⊢
    generalize ((T.getD (s.i + 1) default).p : Int) = tp at t2
    generalize tokA T s = tz at NC F0
    generalize s.i = i at c2 t0 t1 t2 hmore
    have i1 : IntKind.i64.wrap ((i : Int) + 1) = (i : Int) + 1 := IntWalk.i64_in _ (by omega)
    have h0 : (0 : Int) ≤ (i : Int) + 1 := by omega
    have h1 : (i : Int) + 1 < (n : Int) := by omega
    have h2 : ((i : Int) + 1).toNat = i + 1 := by omega
    have hne : (k != 3) = false := by rw [h3]; rfl
    have qx : ((ofL tx).toList == [40]) = decide (tx = [40]) := by rw [word_beq, ofL_list]
    obtain ⟨bx, hbx⟩ : ∃ bx, bx = decide (tx = [40]) := ⟨_, rfl⟩
    rw [← hbx] at qx ⊢
    have hb := cell_ltk t0
    have C := Lib.hid (And.intro c1 (And.intro c2 (And.intro t0 (And.intro t1 t2))))
    clear hE hk3 hk h3 h hc H hn c1 c2 t0 t1 t2 hbx
    go_enter Tryz.func79, Tryz.ntmps79
    go_wp2_with fail
    refine NC.out.mono ?_
    rintro e w1 ⟨rfl, k1⟩
    obtain ⟨c1, c2, t0, t1, t2⟩ := C.out
    have c1 := (k1.cell hP (fun h => h)).trans c1
    have c2 := (k1.cell hP (fun h => h)).trans c2
    have t0 := (k1.cell hb (fun h => h)).trans t0
    have t1 := (k1.cell hb (fun h => h)).trans t1
    have t2 := (k1.cell hb (fun h => h)).trans t2
    have K1 := Lib.hid k1
    have ka := Keeps.one w1 (.cells #[.int .i64 0, .string { data := #[] }, .int .i64 0] 38)
    have d1 := (ka.cell (cell_ltk c1) (fun h => h)).trans c1
    have d2 := (ka.cell (cell_ltk c2) (fun h => h)).trans c2
    have u0 := (ka.cell (cell_ltk t0) (fun h => h)).trans t0
    have u1 := (ka.cell (cell_ltk t1) (fun h => h)).trans t1
    have u2 := (ka.cell (cell_ltk t2) (fun h => h)).trans t2
    clear k1 NC C ka
    go_wp2_with fail
    go_region
    have K2 : Hid (Keeps (fun _ => False) w ((w1.alloc (.cells #[.int .i64 tk, .string (ofL tx), .int .i64 tp] 38)).drew)) := Lib.hid (K1.out.alloc _).drew
    have z := Loc.new (w := w1) (R := fun _ => False) (fun h => h) [.int .i64 tk, .string (ofL tx), .int .i64 tp] 38
    obtain ⟨X, hX⟩ : ∃ X, X = w1.heap.size := ⟨_, rfl⟩
    obtain ⟨w2, hw2⟩ : ∃ w2, w2 = (w1.alloc (.cells #[.int .i64 tk, .string (ofL tx), .int .i64 tp] 38)).drew := ⟨_, rfl⟩
    have z0 : w2.cell? ⟨X, 0, none⟩ = some (.int .i64 tk) := by rw [hw2, hX]; exact z.cells 0 _ rfl
    have z1 : w2.cell? ⟨X, 1, none⟩ = some (.string (ofL tx)) := by rw [hw2, hX]; exact z.cells 1 _ rfl
    rw [← hX]
    rw [← hw2] at K2 ⊢
    clear hw2 hX z K1 c1 c2 t0 t1 t2 d1 d2 u0 u1 u2
    by_cases h5 : tk = 5
    · rw [h5] at z0
      have DD : Hid (decide (tk = 5) = true) := Lib.hid (decide_eq_true h5)
      clear h5
      go_wp2_with fail
      go_ret
      exact ⟨by rw [DD.out]; rfl, K2.out⟩
    · have DD : Hid (decide (tk = 5) = false) := Lib.hid (decide_eq_false h5)
      have d5 : (tk == 5) = false := by simpa using h5
      clear h5
      go_wp2_with fail
      go_ret
      exact ⟨by rw [DD.out]; rfl, K2.out⟩
  · have hk3 : ¬ (tokA T s).k = 3 := by omega
    have hE : callsS T s = false := by unfold callsS; rw [decide_eq_false hk3]; rfl
    rw [hE]
    have hne : (k != 3) = true := by simpa using h3
    generalize tokA T s = tz at NC F0
    clear hE hk3 hk h H h3
    go_enter Tryz.func79, Tryz.ntmps79
    go_wp2_with fail
    refine NC.out.mono ?_
    rintro e w1 ⟨rfl, k1⟩
    have K1 := Lib.hid k1
    clear k1 NC
    go_wp2_with fail
    go_ret
    exact ⟨rfl, K1.out⟩
end Go.Proofs.YtgelggdgbmldiaaGreatDoor

namespace Go.Proofs.YtgelggdgbmldiaaGreatDoor
open Go Go.RowKit Go.Shelf
set_option linter.unusedVariables false
set_option linter.unusedSimpArgs false

def valI (l : List Int) : List Value := l.map (fun x => .int .i64 x)
theorem valI_append (l m : List Int) : valI (l ++ m) = valI l ++ valI m := by simp [valI]
theorem valI_length (l : List Int) : (valI l).length = l.length := by simp [valI]
theorem valI_at (l : List Int) (k : Nat) (h : k < l.length) : (valI l)[k]? = some (.int .i64 (l.getD k 0)) := by
  unfold valI
  rw [List.getElem?_map, List.getElem?_eq_getElem h]
  simp [List.getD, List.getElem?_eq_getElem h]
theorem valI_one (l : List Int) : ∀ u ∈ valI l, u.oneCell' = true := by
  intro u hu
  obtain ⟨x, _, rfl⟩ := List.mem_map.1 hu
  rfl
theorem info_int : (Tryz.prog.info? 3).map (fun i => (i.zero, i.size, i.bytes)) = some (some (.int .i64 0), 1, 8) := by kernel_rfl
theorem own_rdI {w : World} {A : Option Addr} {n c : Nat} {l : List Int} (h : w.ownsRow 0 3 1 (.slice A n c) n (valI l)) (hn : n = l.length) : RdI w A l := fun h0 => by
  rcases h.2 with ⟨e1, h1⟩ | ⟨g, cap, cur, e1, _⟩
  · omega
  · have e2 : A = some ⟨g, 0, none⟩ := by injection e1
    subst e2
    refine ⟨g, 0, rfl, fun k hk => ?_⟩
    rw [Nat.zero_add]
    exact (h.cellAt k (by omega)).trans (valI_at l k hk)
theorem newsI {w : World} (z : Int) (t : TypeId) : ∀ j u, (valI [z])[j]? = some u → (w.alloc (.cells #[.int .i64 z] t)).cell? ((⟨w.heap.size, 0, none⟩ : Addr).add j) = some u := by
  intro j u h
  have e : (⟨w.heap.size, 0, none⟩ : Addr).add j = ⟨w.heap.size, j, none⟩ := by unfold Addr.add; split <;> simp_all
  rw [e, World.cell?_alloc_mark]
  match j, h with
  | 0, h => simpa [valI] using h

/-- What goes below a node: a row that is not the parser's. -/
def NewRow (P : Nat) (R : Nat → Prop) (a : Option Addr) (l : List Int) : Prop := 0 < l.length → ∃ X off, a = some ⟨X, off, none⟩ ∧ ¬ R X ∧ P < X

/-- The contract of a function that puts a node. -/
def NodeC (P : Nat) (src : ByteArray) (T : List Tok) (f : Nat) (mm : Nd → List Int → PM Int) : Prop :=
  ∀ (k ln n : Int) (x : List UInt8) (l : List Int) (s s' : PS) (r : Int) (R : Nat → Prop) (w : World) (a0 : Option Addr) (m0 c0 : Nat) (a : Option Addr) (c : Nat), mm ⟨k, ln, n, x, []⟩ l s = some (r, s') → Par w P src T R s → RdI w a l → NewRow P R a l →
    Calls Tryz.prog f #[.pointer (some ⟨P, 0, none⟩), .agg #[.int .i64 k, .int .i64 ln, .int .i64 n, .string (ofL x), .slice a0 m0 c0], .slice a l.length c] w fun e w' => e = .returned (.int .i64 r) ∧ ∃ R', Par w' P src T R' s' ∧ Keeps R w w' ∧ ∀ b, b < w.heap.size → R' b → R b ∨ ∃ off, a = some ⟨b, off, none⟩

theorem nodeC (P : Nat) (src : ByteArray) (T : List Tok) : NodeC P src T 62 nodeM := by
  intro k ln n x l s s' r R w a0 m0 c0 a c hm hp hr hn
  obtain ⟨h1, rfl, rfl⟩ := node_out hm
  by_cases h0 : 0 < l.length
  · obtain ⟨X, off, e1, hX, hPX⟩ := hn h0
    refine (node_any hp ⟨k, ln, n, x, []⟩ a0 m0 c0 a c l hr X (fun _ => ⟨off, e1⟩) hX hPX h1).mono fun e w' ⟨h1, R', h2, h3, h4⟩ => ⟨h1, R', h2, h3, fun b hb hr => (h4 b hb hr).imp id fun e2 => ⟨off, by rw [e2]; exact e1⟩⟩
  · refine (node_any hp ⟨k, ln, n, x, []⟩ a0 m0 c0 a c l hr w.heap.size (fun h => absurd h h0) hp.new hp.lo h1).mono fun e w' ⟨h1, R', h2, h3, h4⟩ => ⟨h1, R', h2, h3, fun b hb hr => (h4 b hb hr).imp id fun e => by omega⟩

section
variable {P : Nat} {src : ByteArray} {T : List Tok} {f : Nat} {mm : Nd → List Int → PM Int} {R : Nat → Prop} {s s' : PS} {w : World} {r : Int}
theorem NodeC.nil (h : NodeC P src T f mm) (hp : Par w P src T R s) (k ln n : Int) (x : List UInt8) (hm : mm ⟨k, ln, n, x, []⟩ [] s = some (r, s')) :
    Calls Tryz.prog f #[.pointer (some ⟨P, 0, none⟩), .agg #[.int .i64 k, .int .i64 ln, .int .i64 n, .string (ofL x), .slice none 0 0], .slice none 0 0] w (Post P src T R w (.int .i64 r) s') :=
  (h k ln n x [] s s' r R w none 0 0 none 0 hm hp (fun h => absurd h (by simp)) (fun h => absurd h (by simp))).mono fun e w' ⟨h1, R', h2, h3, h4⟩ => ⟨h1, R', h2, h3, fun b hb hr => (h4 b hb hr).elim id (fun ⟨off, e⟩ => by cases e)⟩
theorem NodeC.fresh (h : NodeC P src T f mm) (hp : Par w P src T R s) (k ln n : Int) (x : List UInt8) (l : List Int) (o : Obj) (m : Nat) (hl : m = l.length) (hr : RdI (w.alloc o) (some ⟨w.heap.size, 0, none⟩) l) (hm : mm ⟨k, ln, n, x, []⟩ l s = some (r, s')) :
    Calls Tryz.prog f #[.pointer (some ⟨P, 0, none⟩), .agg #[.int .i64 k, .int .i64 ln, .int .i64 n, .string (ofL x), .slice none 0 0], .slice (some ⟨w.heap.size, 0, none⟩) m m] (w.alloc o) (Post P src T R w (.int .i64 r) s') := by
  subst hl
  refine (h k ln n x l s s' r R (w.alloc o) none 0 0 (some ⟨w.heap.size, 0, none⟩) l.length hm (hp.keep (Keeps.one w o)) hr (fun _ => ⟨w.heap.size, 0, rfl, hp.new, hp.lo⟩)).mono fun e w' ⟨h1, R', h2, h3, h4⟩ => ⟨h1, R', h2, ?_, fun b hb hr => ?_⟩
  · exact ((Keeps.one w o).mono (T := R) (fun _ _ h => h.elim)).trans h3 (fun _ _ h => h)
  · rcases h4 b (by rw [World.size_alloc]; omega) hr with h5 | ⟨off, e⟩
    · exact h5
    · cases e
      exact absurd hb (Nat.lt_irrefl _)
theorem NodeC.one (h : NodeC P src T f mm) (hp : Par w P src T R s) (k ln n : Int) (x : List UInt8) (a : Int) (hm : mm ⟨k, ln, n, x, []⟩ [a] s = some (r, s')) :
    Calls Tryz.prog f #[.pointer (some ⟨P, 0, none⟩), .agg #[.int .i64 k, .int .i64 ln, .int .i64 n, .string (ofL x), .slice none 0 0], .slice (some ⟨w.heap.size, 0, none⟩) 1 1] (w.alloc (.cells #[.int .i64 a] 3)) (Post P src T R w (.int .i64 r) s') :=
  h.fresh hp k ln n x [a] _ 1 rfl (fun _ => ⟨w.heap.size, 0, rfl, fun j hj => by
    have : j = 0 := by simp at hj; omega
    subst this
    exact World.cell?_alloc_mark w #[.int .i64 a] 3 (0, 0) 0⟩) hm
theorem NodeC.two (h : NodeC P src T f mm) (hp : Par w P src T R s) (k ln n : Int) (x : List UInt8) (a b : Int) (hm : mm ⟨k, ln, n, x, []⟩ [a, b] s = some (r, s')) :
    Calls Tryz.prog f #[.pointer (some ⟨P, 0, none⟩), .agg #[.int .i64 k, .int .i64 ln, .int .i64 n, .string (ofL x), .slice none 0 0], .slice (some ⟨w.heap.size, 0, none⟩) 2 2] (w.alloc (.cells #[.int .i64 a, .int .i64 b] 3)) (Post P src T R w (.int .i64 r) s') :=
  h.fresh hp k ln n x [a, b] _ 2 rfl (fun _ => ⟨w.heap.size, 0, rfl, fun j hj => by
    rw [Nat.zero_add, World.cell?_alloc_mark w #[.int .i64 a, .int .i64 b] 3 (0, 0) j]
    match j, hj with
    | 0, _ => rfl
    | 1, _ => rfl⟩) hm
/-- A row that the caller made since its beginning, at w0. -/
theorem NodeC.row (h : NodeC P src T f mm) (hp : Par w P src T R s) (k ln n : Int) (x : List UInt8) (l : List Int) {A : Option Addr} {m c : Nat} (hl : m = l.length) (ho : w.ownsRow 0 3 1 (.slice A m c) m (valI l)) {R0 : Nat → Prop} {w0 : World} (hf : Fr R0 w0 R w) (hP0 : P < w0.heap.size)
    (hb : ∀ g, (Value.slice A m c).ownBlock = some g → ¬ R g ∧ w0.heap.size ≤ g) (hm : mm ⟨k, ln, n, x, []⟩ l s = some (r, s')) :
    Calls Tryz.prog f #[.pointer (some ⟨P, 0, none⟩), .agg #[.int .i64 k, .int .i64 ln, .int .i64 n, .string (ofL x), .slice none 0 0], .slice A m c] w (Post P src T R0 w0 (.int .i64 r) s') := by
  have hr := own_rdI ho hl
  subst hl
  have form : 0 < l.length → ∃ g, A = some ⟨g, 0, none⟩ ∧ (Value.slice A l.length c).ownBlock = some g := fun h0 => by
    rcases ho.2 with ⟨e1, h1⟩ | ⟨g, cap, cur, e1, _⟩
    · omega
    · have e2 : A = some ⟨g, 0, none⟩ := by injection e1
      exact ⟨g, e2, by rw [e2]; rfl⟩
  refine (h k ln n x l s s' r R w none 0 0 A c hm hp hr (fun h0 => ?_)).mono fun e w' ⟨h1, R', h2, h3, h4⟩ => ⟨h1, R', h2, hf.1.trans h3 (fun x hx hr => hf.2 x hx hr), fun b hb2 hr2 => ?_⟩
  · obtain ⟨g, e, eb⟩ := form h0
    exact ⟨g, 0, e, (hb g eb).1, Nat.lt_of_lt_of_le hP0 (hb g eb).2⟩
  · rcases h4 b (Nat.lt_of_lt_of_le hb2 hf.1.size) hr2 with h5 | ⟨off, e⟩
    · exact hf.2 b hb2 h5
    · exfalso
      rcases ho.2 with ⟨e1, h1⟩ | ⟨g, cap, cur, e1, _⟩
      · have e2 : A = none := by injection e1
        rw [e2] at e
        cases e
      · have e2 : A = some ⟨g, 0, none⟩ := by injection e1
        have hg := (hb g (by rw [e2]; rfl)).2
        rw [e2] at e
        cases e
        omega
end

theorem own_keep {w w' : World} {R R' : Nat → Prop} {v : Value} {n : Nat} {xs : List Value} (h : w.ownsRow 0 3 1 v n xs) (f : Fr R w R' w') {B : Nat} (hb : ∀ g, v.ownBlock = some g → ¬ R g ∧ B ≤ g) :
    w'.ownsRow 0 3 1 v n xs ∧ ∀ g, v.ownBlock = some g → ¬ R' g ∧ B ≤ g :=
  ⟨ownsRow_keep h (fun g hg => f.1.block g (own_ltk h hg) (hb g hg).1), fun g hg => ⟨fun hr => (hb g hg).1 (f.2 g (own_ltk h hg) hr), (hb g hg).2⟩⟩
/-- A number more, behind what the caller made. -/
theorem own_more {w w1 w5 : World} {R R0 : Nat → Prop} {w0 : World} {P : Nat} {src : ByteArray} {T : List Tok} {s : PS} {v v5 : Value} (hp : Par w P src T R s) (hf : Fr R0 w0 R w) (hP0 : P < w0.heap.size) (hb : ∀ g, v.ownBlock = some g → ¬ R g ∧ w0.heap.size ≤ g) (k1 : Keeps (fun _ => False) w w1)
    (hg : w1.grownBy w5 v.ownBlock) (h5 : v5.ownBlock = v.ownBlock ∨ v5.ownBlock = some w1.heap.size) :
    Par w5 P src T R s ∧ Fr R0 w0 R w5 ∧ (∀ g, v5.ownBlock = some g → ¬ R g ∧ w0.heap.size ≤ g) ∧ Keeps (fun b => v.ownBlock = some b) w w5 := by
  have k15 : Keeps (fun b => v.ownBlock = some b) w1 w5 := ⟨hg.os, hg.tape, hg.output, hg.size, fun b hb hn => hg.block b hb (fun e => hn e.symm)⟩
  have k : Keeps (fun b => v.ownBlock = some b) w w5 := (k1.mono (T := fun b => v.ownBlock = some b) (fun _ _ h => h.elim)).trans k15 (fun _ _ h => h)
  refine ⟨hp.keepR k (fun b hr hv => (hb b hv).1 hr) (fun b hv => Nat.le_of_lt (Nat.lt_of_lt_of_le hP0 (hb b hv).2)), ⟨hf.1.trans (T := fun b => v.ownBlock = some b) k (fun x hx hv => absurd (hb x hv).2 (by omega)), hf.2⟩, fun g hg5 => ?_, k⟩
  rcases h5 with e | e
  · rw [e] at hg5
    exact hb g hg5
  · rw [e] at hg5
    cases hg5
    have h1 := k1.size
    have h2 := hf.1.size
    exact ⟨fun hr => by have := hp.lt _ hr; omega, by omega⟩
theorem Loc.keepsR {w w' : World} {R : Nat → Prop} {X : Nat} {vs : List Value} (h : Loc w R X vs) {S : Nat → Prop} (k : Keeps S w w') (hX : ¬ S X) : Loc w' R X vs :=
  ⟨Nat.lt_of_lt_of_le h.lt k.size, h.out, fun j u hu => (k.cell h.lt hX).trans (h.cells j u hu), fun j => (k.frozen h.lt hX).trans (h.fz j)⟩

end Go.Proofs.YtgelggdgbmldiaaGreatDoor
