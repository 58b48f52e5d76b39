/-
 Layer 4: the program's checker on statements and blocks. Written by an AI agent.
-/
import Derived.Test.YtbhpnioggpgbhaaGreatDoorMcbf
namespace Go.Proofs.YtbhpnioggpgbhaaGreatDoor
open Go Go.RowKit Go.Shelf
set_option linter.unusedVariables false
set_option linter.unusedSimpArgs false
def updB (s : CkS) (b f : Nat) (r : Blk) : CkS := { upd s b r.l with V := r.v, sz := s.sz.set f (r.n : Int) }
def rsB (s : CkS) (b f : Nat) : CR Blk → RS
 | .ok r => .ok (updB s b f r)
 | .error z => .error (z.1, (z.2 : Int))
theorem updB_updB {q : CkQ} {s : CkS} {b e f : Nat} (h : Rdy q s b e) (v1 v2 : List Vb) (n1 n2 : Nat) (l m : List Tri) {c : Nat} (hc : c = b + l.length) (he : c + m.length ≤ e) : updB (updB s b f ⟨v1, n1, l⟩) c f ⟨v2, n2, m⟩ = updB s b f ⟨v2, n2, l ++ m⟩ := by
 have e1 := upd_upd h l m hc he
 have a1 : ovr (ovr s.ty b (l.map Tri.t)) c (m.map Tri.t) = ovr s.ty b ((l ++ m).map Tri.t) := congrArg CkS.ty e1
 have a2 : ovr (ovr s.sl b (l.map Tri.s)) c (m.map Tri.s) = ovr s.sl b ((l ++ m).map Tri.s) := congrArg CkS.sl e1
 have a3 : ovr (ovr s.ff b (l.map Tri.f)) c (m.map Tri.f) = ovr s.ff b ((l ++ m).map Tri.f) := congrArg CkS.ff e1
 show CkS.mk (ovr (ovr s.ty b (l.map Tri.t)) c (m.map Tri.t)) (ovr (ovr s.sl b (l.map Tri.s)) c (m.map Tri.s)) (ovr (ovr s.ff b (l.map Tri.f)) c (m.map Tri.f)) ((s.sz.set f n1).set f n2) v2 s.fn s.bad s.e = CkS.mk (ovr s.ty b ((l ++ m).map Tri.t)) (ovr s.sl b ((l ++ m).map Tri.s)) (ovr s.ff b ((l ++ m).map Tri.f)) (s.sz.set f n2) v2 s.fn s.bad s.e
 rw [a1, a2, a3, List.set_set]
theorem updB_self {s : CkS} {f n : Nat} (hz : s.sz[f]? = some (n : Int)) (b : Nat) (l : List Tri) : updB s b f ⟨s.V, n, l⟩ = upd s b l := by
 show ({ upd s b l with V := s.V, sz := s.sz.set f (n : Int) } : CkS) = _
 rw [set_same _ _ _ hz]
 rfl
theorem updB_upd {q : CkQ} {s : CkS} {b e f : Nat} (h : Rdy q s b e) (v2 : List Vb) (n2 : Nat) (l m : List Tri) {c : Nat} (hc : c = b + l.length) (he : c + m.length ≤ e) : updB (upd s b l) c f ⟨v2, n2, m⟩ = updB s b f ⟨v2, n2, l ++ m⟩ := by
 show ({ upd (upd s b l) c m with V := v2, sz := s.sz.set f (n2 : Int) } : CkS) = _
 rw [upd_upd h l m hc he]
 rfl
theorem updB_mark {q : CkQ} {s : CkS} {b j f : Nat} (h : Rdy q s b (j + 1)) (v : List Vb) (n : Nat) (l : List Tri) (hl : j = b + l.length) : updB { s with ff := s.ff.set j s.fn } b f ⟨v, n, l⟩ = updB s b f ⟨v, n, l ++ [⟨0, -1, s.fn⟩]⟩ := by
 show ({ upd { s with ff := s.ff.set j s.fn } b l with V := v, sz := s.sz.set f (n : Int) } : CkS) = _
 rw [fin_0 h l hl]
 rfl
theorem Rdy.updB {q : CkQ} {s : CkS} {b e c f : Nat} (h : Rdy q s b e) (r : Blk) (hl : c = b + r.l.length) (hc : c ≤ e) (hv : r.v.length ≤ 1000) : Rdy q (updB s b f r) c e := by
 have g := h.upd r.l hl hc
 exact ⟨g.lT, g.lS, g.lF, by show (s.sz.set f _).length = _; rw [List.length_set]; exact h.lZ, g.em, g.ty0, g.sl1, hv⟩
/-- What a block has come to, in numbers. -/
structure BOk (V : List Vb) (n k : Nat) (r : Blk) : Prop where
 l : r.l.length = k
 v : ∃ ext, r.v = V ++ ext
 n1 : n ≤ r.n
 n2 : r.n ≤ n ∨ r.n ≤ 24
 vn : V.length ≤ n → r.v.length ≤ r.n
theorem BOk.same {V : List Vb} {n k : Nat} {l : List Tri} (h : l.length = k) : BOk V n k ⟨V, n, l⟩ := ⟨h, ⟨[], (List.append_nil _).symm⟩, Nat.le_refl _, .inl (Nat.le_refl _), fun h => h⟩
theorem ckR_form {fs : List Fnc} {fn : Int} {V : List Vb} {r : Rt} {b : Nat} {p : Int × List Tri} (h : ckR fs fn V r b = .ok p) : ∃ l s, p.2 = l ++ [⟨p.1, s, fn⟩] ∧ l.length = kR r := by
 cases r with
 | ex e => exact ck_form e b p h
 | input => cases h; exact ⟨[], -1, rfl, rfl⟩
 | new a =>
  obtain ⟨q, h1, h2⟩ := bind_ok h
  obtain ⟨_, rfl⟩ := need_ok h2
  exact ⟨q.2, -1, rfl, ck_lenE h1⟩
 | call x l =>
  simp only [ckR] at h
  split at h
  ·cases h
  ·obtain ⟨q, h1, h2⟩ := bind_ok h
   split at h2
   ·cases h2
   ·split at h2
    ·cases h2
     exact ⟨q.2, -1, rfl, (ckEs_len l b q h1).1⟩
    ·cases h2
theorem ckR_len {fs : List Fnc} {fn : Int} {V : List Vb} {r : Rt} {b : Nat} {p : Int × List Tri} (h : ckR fs fn V r b = .ok p) : p.2.length = kR r + 1 := by
 obtain ⟨l, s, e1, e2⟩ := ckR_form h
 rw [e1, List.length_append, e2]
 rfl
theorem ckR_ty {fs : List Fnc} {fn : Int} {V : List Vb} {r : Rt} {b : Nat} {p : Int × List Tri} (h : ckR fs fn V r b = .ok p) {q : CkQ} {s : CkS} {c : Nat} (hr : Rdy q s b c) (hc : b + kR r + 1 ≤ c) : (upd s b p.2).ty[b + kR r]? = some p.1 := by
 have hl := ckR_len h
 rw [upd_ty hr p.2 (by omega) (b + kR r) (by omega) (by omega), show b + kR r - b = kR r by omega]
 obtain ⟨l, s, e1, e2⟩ := ckR_form h
 rw [e1, ← e2]
 simp
mutual
theorem ckS_ok {fs : List Fnc} {fn ret : Int} : ∀ (st : Stm) (V : List Vb) (n b : Nat) (r : Blk), ckS fs fn ret st V n b = .ok r → BOk V n (kS st + 1) r
 | .lt x rr, V, n, b, r, h => by
  unfold ckS at h
  obtain ⟨q, h1, h2⟩ := bind_ok h
  have hl := ckR_len h1
  split at h2
  ·cases h2
  split at h2
  ·cases h2
  split at h2
  ·cases h2
  cases h2
  unfold kS
  exact ⟨by show (q.2 ++ [_]).length = _; rw [List.length_append, hl]; rfl, ⟨_, rfl⟩, Nat.le_succ n, .inr (by show n + 1 ≤ 24; omega), fun h => by show (V ++ [_]).length ≤ n + 1; rw [List.length_append]; show V.length + 1 ≤ _; omega⟩
 | .set x rr, V, n, b, r, h => by
  unfold ckS at h
  split at h
  ·cases h
  obtain ⟨q, h1, h2⟩ := bind_ok h
  have hl := ckR_len h1
  split at h2
  ·cases h2; unfold kS; exact BOk.same (by rw [List.length_append, hl]; rfl)
  ·cases h2
 | .put x a c, V, n, b, r, h => by
  unfold ckS at h
  split at h
  ·cases h
  obtain ⟨q, h1, h2⟩ := bind_ok h
  obtain ⟨u, h3, h4⟩ := bind_ok h2
  have hl := ck_lenE h1
  have hl2 := ck_lenE h3
  split at h4
  ·cases h4; unfold kS; exact BOk.same (by rw [List.length_append, List.length_append, hl, hl2]; rfl)
  ·cases h4
 | .doo x l, V, n, b, r, h => by
  unfold ckS at h
  obtain ⟨q, h1, h2⟩ := bind_ok h
  have hl := ckR_len h1
  cases h2
  unfold kS
  exact BOk.same (by rw [List.length_append, hl]; rfl)
 | .print a, V, n, b, r, h => by
  unfold ckS at h
  obtain ⟨q, h1, h2⟩ := bind_ok h
  have hl := ck_lenE h1
  split at h2
  ·cases h2; unfold kS; exact BOk.same (by rw [List.length_append, hl]; rfl)
  ·cases h2
 | .ret0, V, n, b, r, h => by
  unfold ckS at h
  split at h
  ·cases h; unfold kS; exact BOk.same rfl
  ·cases h
 | .ret1 a, V, n, b, r, h => by
  unfold ckS at h
  split at h
  ·cases h
  obtain ⟨q, h1, h2⟩ := bind_ok h
  have hl := ck_lenE h1
  split at h2
  ·cases h2; unfold kS; exact BOk.same (by rw [List.length_append, hl]; rfl)
  ·cases h2
 | .ifs c a, V, n, b, r, h => by
  unfold ckS at h
  obtain ⟨q, h1, h2⟩ := bind_ok h
  have hl := ck_lenE h1
  split at h2
  ·obtain ⟨u, h3, h4⟩ := bind_ok h2
   have g := ckB_ok a V n _ u h3
   cases h4
   unfold kS
   exact ⟨by show (q.2 ++ (u.l ++ [_]) ++ [_]).length = _; rw [List.length_append, List.length_append, List.length_append, hl, g.l]; rfl, ⟨[], (List.append_nil _).symm⟩, g.n1, g.n2, fun h => by have := g.n1; show V.length ≤ u.n; omega⟩
  ·cases h2
 | .ifelse c a d, V, n, b, r, h => by
  unfold ckS at h
  obtain ⟨q, h1, h2⟩ := bind_ok h
  have hl := ck_lenE h1
  split at h2
  ·obtain ⟨u, h3, h4⟩ := bind_ok h2
   obtain ⟨p, h5, h6⟩ := bind_ok h4
   have g := ckB_ok a V n _ u h3
   have g2 := ckB_ok d V u.n _ p h5
   cases h6
   unfold kS
   exact ⟨by show (q.2 ++ (u.l ++ [_]) ++ (p.l ++ [_]) ++ [_]).length = _; rw [List.length_append, List.length_append, List.length_append, List.length_append, List.length_append, hl, g.l, g2.l]; rfl, ⟨[], (List.append_nil _).symm⟩, Nat.le_trans g.n1 g2.n1, by have := g.n2; have := g2.n2; show p.n ≤ n ∨ p.n ≤ 24; omega, fun h => by have := g.n1; have := g2.n1; show V.length ≤ p.n; omega⟩
  ·cases h2
 | .whil c a, V, n, b, r, h => by
  unfold ckS at h
  obtain ⟨q, h1, h2⟩ := bind_ok h
  have hl := ck_lenE h1
  split at h2
  ·obtain ⟨u, h3, h4⟩ := bind_ok h2
   have g := ckB_ok a V n _ u h3
   cases h4
   unfold kS
   exact ⟨by show (q.2 ++ (u.l ++ [_]) ++ [_]).length = _; rw [List.length_append, List.length_append, List.length_append, hl, g.l]; rfl, ⟨[], (List.append_nil _).symm⟩, g.n1, g.n2, fun h => by have := g.n1; show V.length ≤ u.n; omega⟩
  ·cases h2
theorem ckB_ok {fs : List Fnc} {fn ret : Int} : ∀ (l : Bl) (V : List Vb) (n b : Nat) (r : Blk), ckB fs fn ret l V n b = .ok r → BOk V n (kB l) r
 | .nil, V, n, b, r, h => by unfold ckB at h; cases h; unfold kB; exact BOk.same rfl
 | .cons s l, V, n, b, r, h => by
  unfold ckB at h
  obtain ⟨q, h1, h2⟩ := bind_ok h
  obtain ⟨u, h3, h4⟩ := bind_ok h2
  have g := ckS_ok s V n b q h1
  have g2 := ckB_ok l q.v q.n _ u h3
  cases h4
  unfold kB
  obtain ⟨e1, he1⟩ := g.v
  obtain ⟨e2, he2⟩ := g2.v
  exact ⟨by show (q.l ++ u.l).length = _; rw [List.length_append, g.l, g2.l], ⟨e1 ++ e2, by show u.v = _; rw [he2, he1, List.append_assoc]⟩, Nat.le_trans g.n1 g2.n1, by have := g.n2; have := g2.n2; show u.n ≤ n ∨ u.n ≤ 24; omega, fun h => g2.vn (g.vn h)⟩
end
mutual
def SgS : Stm → Prop
 | .lt _ r => SgR r
 | .set _ r => SgR r
 | .put _ a b => SgE a ∧ SgE b
 | .doo _ l => ∀ e ∈ l, SgE e
 | .print a => SgE a
 | .ret0 => True
 | .ret1 a => SgE a
 | .ifs c a => SgE c ∧ SgB a
 | .ifelse c a b => SgE c ∧ SgB a ∧ SgB b
 | .whil c a => SgE c ∧ SgB a
def SgB : Bl → Prop
 | .nil => True
 | .cons s b => SgS s ∧ SgB b
end
section
variable {q : CkQ} {nd : List Nd} {fs : List Fnc} {w0 : World}
theorem rsB_one {s : CkS} {b f n : Nat} (hz : s.sz[f]? = some (n : Int)) (m : CR (Int × List Tri)) (j : Nat) (v : Int) (c : Int → Prop) [∀ u, Decidable (c u)] :
  rsB s b f (m.bind fun p => if c p.1 then .ok ⟨s.V, n, p.2 ++ [⟨0, v, s.fn⟩]⟩ else .error ((j : Int), 42)) = rsE s b (m.bind fun r => needT s.fn (c r.1) j 0 r.2 v) := by
 cases m with
 | error z => rfl
 | ok p =>
  show rsB s b f (if c p.1 then .ok ⟨s.V, n, p.2 ++ [⟨0, v, s.fn⟩]⟩ else .error ((j : Int), 42)) = rsE s b (needT s.fn (c p.1) j 0 p.2 v)
  unfold needT
  by_cases h : c p.1
  ·rw [if_pos h, if_pos h]
   show Except.ok (updB s b f ⟨s.V, n, p.2 ++ [⟨0, v, s.fn⟩]⟩) = Except.ok (upd s b (p.2 ++ [⟨0, v, s.fn⟩]))
   rw [updB_self hz]
  ·rw [if_neg h, if_neg h]
   rfl
/-- if and while: the condition, then blocks. -/
theorem nd_cond {j b : Nat} {k : Int} (hk : k = 15 ∨ k = 16) {s : CkS} {c : Ex} {ys : List Int} (hj : b + kE c + 1 ≤ j) (hr : Rdy q s b (j + 1)) (hy6 : ys.length ≤ 100) (hat : At nd (j : Int) k 0 [] (((b + kE c : Nat) : Int) :: ys)) (hg : SgE c) (g : FlAt nd b (flE c b)) (rr : List Tri → RS)
  (hb : ∀ p, ckE s.fn s.V c b = .ok p → p.1 = 2 → SeqI (fun _ => true) (BlkC q nd fs w0) 1 ys (upd { s with ff := s.ff.set j s.fn } b p.2) (rr p.2)) :
  NdC q nd fs w0 (j : Int) s (match ckE s.fn s.V c b with | .error z => .error (z.1, (z.2 : Int)) | .ok p => if p.1 = 2 then rr p.2 else .error ((j : Int), 42)) := by
 have hm : j < q.m := by have := hr.em; omega
 have hl6 : (((b + kE c : Nat) : Int) :: ys).length ≤ 1000000 := by show ys.length + 1 ≤ _; omega
 have hr1 := hr.mark
 have h1 := nd_E (q := q) (nd := nd) (fs := fs) (w0 := w0) c b _ hg g (hr1.part (Nat.le_refl _) (by omega))
 have e1 : ckE ({ s with ff := s.ff.set j s.fn } : CkS).fn ({ s with ff := s.ff.set j s.fn } : CkS).V c b = ckE s.fn s.V c b := rfl
 rw [e1] at h1
 have hn : NmC q nd fs w0 j k 0 [] (((b + kE c : Nat) : Int) :: ys) { s with ff := s.ff.set j s.fn } 0 { s with ff := s.ff.set j s.fn } := nm_rest _ k 0 [] _ _ (by omega) (by omega) (by omega) (by omega) (by omega) (by omega)
 have hK : ∀ i : Nat, isBlkK k i = decide (0 < i) := fun i => by
  unfold isBlkK
  have : ((k == 15) || (k == 16)) = true := by rcases hk with rfl | rfl <;> rfl
  rw [this, Bool.and_true]
  congr 1
  exact propext ⟨fun h => by omega, fun h => by omega⟩
 have hsk : ∀ (l : List Int) (i : Nat) (s : CkS), 0 < i → SeqI (fun i => !isBlkK k i) (NdC q nd fs w0) i l s (.ok s) := by
  intro l
  induction l with
  | nil => intro i s _; exact .nil i s
  | cons x l ih => intro i s hi; exact .skip i x l s _ (by rw [hK, decide_eq_true hi]; rfl) (ih (i + 1) s (by omega))
 have hup : ∀ (l : List Int) (i : Nat) (s : CkS) (r : RS), 0 < i → SeqI (fun _ => true) (BlkC q nd fs w0) i l s r → SeqI (fun i => isBlkK k i) (BlkC q nd fs w0) i l s r := by
  intro l i s r hi h
  induction h with
  | nil i s => exact .nil i s
  | skip i x l s r h _ _ => exact absurd h (by simp)
  | ok i x l s s1 r _ h2 _ ih => exact .ok i x l s s1 r (by rw [hK]; exact decide_eq_true hi) h2 (ih (by omega))
  | bad i x l s z _ h2 => exact .bad i x l s z (by rw [hK]; exact decide_eq_true hi) h2
 cases hc : ckE s.fn s.V c b with
 | error z =>
  rw [hc] at h1
  exact pnodeC j hm k 0 [] _ hat hl6 _ ⟨0, _, hn, .inr ⟨rfl, .error _, .bad 0 _ _ _ _ (by rw [hK]; rfl) h1, .inl ⟨_, rfl, rfl⟩⟩⟩
 | ok p =>
  rw [hc] at h1
  have hl := ck_lenE hc
  have ht := ck_tyE hc hr1 (by omega)
  have hz : TlC q nd fs w0 k 0 [] (((b + kE c : Nat) : Int) :: ys) (upd { s with ff := s.ff.set j s.fn } b p.2) 0 (if p.1 = 2 then 0 else 42) := by
   rcases hk with rfl | rfl
   ·exact tl_if 0 [] _ _ (by exact hr.V) (b + kE c) rfl (by omega) p.1 ht
   ·exact tl_whil 0 [] _ _ (by exact hr.V) (b + kE c) rfl (by omega) p.1 ht
  refine pnodeC j hm k 0 [] _ hat hl6 _ ⟨0, _, hn, .inr ⟨rfl, .ok _, .ok 0 _ _ _ _ _ (by rw [hK]; rfl) h1 (hsk ys 1 _ (by omega)), .inr ⟨_, 0, _, rfl, hz, ?_⟩⟩⟩
  by_cases h2 : p.1 = 2
  ·rw [if_pos h2]
   refine .inr ⟨rfl, .inr ⟨by omega, ?_⟩⟩
   show SeqI (fun i => isBlkK k i) (BlkC q nd fs w0) 0 (((b + kE c : Nat) : Int) :: ys) _ (if p.1 = 2 then rr p.2 else .error ((j : Int), 42))
   rw [if_pos h2]
   have e : (upd { s with ff := s.ff.set j s.fn } b p.2).ty[j]? = some 0 := by
    have hm := hr.em
    show (ovr s.ty b (p.2.map Tri.t))[j]? = _
    rw [ovr_get _ _ _ (by rw [List.length_map, hr.lT]; omega), List.length_map, if_neg (by omega)]
    exact hr.ty0 j (by omega) (Nat.lt_succ_self j)
   rw [set_same _ j 0 e]
   exact .skip 0 _ _ _ _ (by rw [hK]; rfl) (hup ys 1 _ _ (by omega) (hb p hc h2))
  ·rw [if_neg h2]
   refine .inl ⟨by decide, ?_⟩
   show (if p.1 = 2 then rr p.2 else .error ((j : Int), 42)) = _
   rw [if_neg h2]
/-- A block with its own node, of its statements. -/
theorem blk_K {a : Bl} {b f n : Nat} {F : Fnc} {s : CkS} (hr : Rdy q s b (b + kB a + 1)) (g : FlAt nd b (flK a b)) (h6 : b + kB a + 1 ≤ 1000000) (hz : s.sz[f]? = some (n : Int)) (hVn : s.V.length ≤ n) (hn : n ≤ 900)
  (ih : ∀ s', Rdy q s' b (b + kB a) → s'.fn = s.fn → s'.V = s.V → s'.sz = s.sz → SeqI (fun _ => true) (NdC q nd fs w0) 0 (rootB a b) s' (rsB s' b f (ckB fs s.fn F.ret a s.V n b))) :
  BlkC q nd fs w0 ((b + kB a : Nat) : Int) s (rsB s b f ((ckB fs s.fn F.ret a s.V n b).bind fun r => .ok ⟨s.V, r.n, r.l ++ [⟨0, -1, s.fn⟩]⟩)) := by
 have hm : b + kB a < q.m := by have := hr.em; omega
 have hat : At nd ((b + kB a : Nat) : Int) 18 0 [] (rootB a b) := (g.right (c := b + kB a) (by rw [flB_len])).at
 have hll : ∀ (a : Bl) (b : Nat), (rootB a b).length ≤ kB a := by
  intro a
  induction a using Bl.rec (motive_1 := fun _ => True) with
  | nil => intro b; unfold rootB; exact Nat.zero_le _
  | cons st l _ ih => intro b; unfold rootB kB; show (rootB l _).length + 1 ≤ _; have := ih (b + kS st + 1); omega
  | _ => trivial
 have h := pblockC (q := q) (nd := nd) (fs := fs) (w0 := w0) (s := s) (b + kB a) hm 18 0 [] (rootB a b) hat _ (ih { s with ff := s.ff.set (b + kB a) s.fn } hr.mark rfl rfl rfl) hr.V (by have := hll a b; omega) (fun s1 hs1 => by
  cases hc : ckB fs s.fn F.ret a s.V n b with
  | error z => rw [hc] at hs1; cases hs1
  | ok r =>
   rw [hc] at hs1
   obtain ⟨ext, he⟩ := (ckB_ok a _ _ _ r hc).v
   cases hs1
   show s.V.length ≤ r.v.length
   rw [he, List.length_append]
   omega)
 cases hc : ckB fs s.fn F.ret a s.V n b with
 | error z => rw [hc] at h; exact h
 | ok r =>
  rw [hc] at h
  have hk := ckB_ok a _ _ _ r hc
  obtain ⟨ext, he⟩ := hk.v
  have e1 := updB_mark (f := f) hr (s.V) r.n r.l (by rw [hk.l])
  show BlkC q nd fs w0 _ s (.ok (updB s b f ⟨s.V, r.n, r.l ++ [⟨0, -1, s.fn⟩]⟩))
  rw [← e1]
  have e2 : ({ updB { s with ff := s.ff.set (b + kB a) s.fn } b f r with V := (updB { s with ff := s.ff.set (b + kB a) s.fn } b f r).V.take s.V.length } : CkS) = updB { s with ff := s.ff.set (b + kB a) s.fn } b f ⟨s.V, r.n, r.l⟩ := by
   have : (updB { s with ff := s.ff.set (b + kB a) s.fn } b f r).V.take s.V.length = s.V := by
    show r.v.take s.V.length = s.V
    rw [he, List.take_left]
   rw [this]
   rfl
  rw [← e2]
  exact h
mutual
theorem nd_S (hF : FsOK fs) (f : Nat) (F : Fnc) (hFf : fs[f]? = some F) (hfk : f < q.k) : ∀ (st : Stm) (b : Nat) (s : CkS) (n : Nat), s.fn = (f : Int) → s.sz[f]? = some (n : Int) → SgS st → FlAt nd b (flS st b) → Rdy q s b (b + kS st + 1) → s.V.length ≤ n → n ≤ 900 → b + kS st + 1 ≤ 1000000 → NdC q nd fs w0 ((b + kS st : Nat) : Int) s (rsB s b f (ckS fs s.fn F.ret st s.V n b))
 | .lt x r, b, s, n, hfn, hz, hg, g, hr, hVn, hn9, h6 => by
  unfold SgS at hg
  unfold flS at g
  unfold kS at hr h6 ⊢
  unfold ckS
  have hat : At nd ((b + (kR r + 1) : Nat) : Int) 10 0 x [((b + kR r : Nat) : Int)] := (g.right (c := b + (kR r + 1)) (by rw [flR_len])).at
  have hm : b + (kR r + 1) < q.m := by have := hr.em; omega
  have hr1 := hr.mark
  have h1 := nd_R (q := q) (w0 := w0) hF r b _ hg g.left (hr1.part (Nat.le_refl _) (by omega)) (by omega)
  have e1 : ckR fs ({ s with ff := s.ff.set (b + (kR r + 1)) s.fn } : CkS).fn ({ s with ff := s.ff.set (b + (kR r + 1)) s.fn } : CkS).V r b = ckR fs s.fn s.V r b := rfl
  rw [e1] at h1
  have hnm : NmC q nd fs w0 (b + (kR r + 1)) 10 0 x [((b + kR r : Nat) : Int)] { s with ff := s.ff.set (b + (kR r + 1)) s.fn } 0 { s with ff := s.ff.set (b + (kR r + 1)) s.fn } := nm_rest _ 10 0 x _ _ (by decide) (by decide) (by decide) (by decide) (by decide) (by decide)
  cases hc : ckR fs s.fn s.V r b with
  | error z => rw [hc] at h1; exact nd_err hm hat (by simp) (by decide) (by decide) hnm (seq_one h1)
  | ok p =>
   rw [hc] at h1
   have hl := ckR_len hc
   have ht := ckR_ty hc hr1 (by omega)
   have htl := tl_let (q := q) (nd := nd) (fs := fs) (w0 := w0) 0 x [((b + kR r : Nat) : Int)] (upd { s with ff := s.ff.set (b + (kR r + 1)) s.fn } b p.2) (by exact hr.V) (b + kR r) rfl (by omega) p.1 ht
   refine pnodeC (b + (kR r + 1)) hm 10 0 x _ hat (by simp) _ ⟨0, _, hnm, .inr ⟨rfl, .ok _, by rw [show (fun i : Nat => !isBlkK 10 i) = fun _ => true from funext fun i => by rw [noBlk (by decide) (by decide)]; rfl]; exact seq_one h1, .inr ⟨_, 0, _, rfl, htl, ?_⟩⟩⟩
   show _ ∨ _
   rw [show (Except.ok p : CR (Int × List Tri)).bind (fun q => if q.1 = 0 then .error (((b + kR r + 1 : Nat) : Int), 42)
    else if (lookV s.V x).isSome then .error (((b + kR r + 1 : Nat) : Int), 41)
    else if 24 ≤ n then .error (((b + kR r + 1 : Nat) : Int), 4)
    else .ok ⟨s.V ++ [⟨x, q.1, (n : Int)⟩], n + 1, q.2 ++ [⟨0, (n : Int), s.fn⟩]⟩) = (if p.1 = 0 then .error (((b + kR r + 1 : Nat) : Int), 42)
    else if (lookV s.V x).isSome then .error (((b + kR r + 1 : Nat) : Int), 41)
    else if 24 ≤ n then .error (((b + kR r + 1 : Nat) : Int), 4)
    else .ok ⟨s.V ++ [⟨x, p.1, (n : Int)⟩], n + 1, p.2 ++ [⟨0, (n : Int), s.fn⟩]⟩ : CR Blk) from rfl]
   by_cases c1 : p.1 = 0
   ·rw [if_neg (fun h => h c1), if_pos c1]
    exact .inl ⟨by decide, rfl⟩
   rw [if_pos c1, if_neg c1]
   refine .inr ⟨rfl, .inl ⟨rfl, ?_⟩⟩
   cases hv : lookV s.V x with
   | some v =>
    exact ⟨41, _, lt_twice _ hm 0 x _ _ (by exact hr.V) v (by exact hv), .inl ⟨by decide, rfl⟩⟩
   | none =>
    rw [if_neg (by simp)]
    by_cases c2 : 24 ≤ n
    ·rw [if_pos c2]
     exact ⟨4, _, lt_big _ hm 0 x _ _ (by exact hr.V) (by exact hv) f n (by exact hfn) hfk (by exact hz) c2, .inl ⟨by decide, rfl⟩⟩
    ·rw [if_neg c2]
     refine ⟨0, _, lt_ok _ hm 0 x _ _ (by exact hr.V) (by exact hv) f n (by exact hfn) hfk (by exact hz) (by omega) (b + kR r) rfl (by omega) p.1 (by exact ht), .inr ⟨rfl, ?_⟩⟩
     have e2 : ({ ({ (upd { s with ff := s.ff.set (b + (kR r + 1)) s.fn } b p.2) with sl := (upd { s with ff := s.ff.set (b + (kR r + 1)) s.fn } b p.2).sl.set (b + (kR r + 1)) (n : Int), sz := (upd { s with ff := s.ff.set (b + (kR r + 1)) s.fn } b p.2).sz.set f ((n : Int) + 1), V := (upd { s with ff := s.ff.set (b + (kR r + 1)) s.fn } b p.2).V ++ [⟨x, p.1, (n : Int)⟩] } : CkS) with ty := (upd { s with ff := s.ff.set (b + (kR r + 1)) s.fn } b p.2).ty.set (b + (kR r + 1)) 0 } : CkS) = updB s b f ⟨s.V ++ [⟨x, p.1, (n : Int)⟩], n + 1, p.2 ++ [⟨0, (n : Int), s.fn⟩]⟩ := by
      have hm := hr.em
      have a1 := ovr_set s.ty b (b + (kR r + 1)) (p.2.map Tri.t) 0 (by rw [List.length_map, hl]) (by rw [hr.lT]; omega)
      have a2 := ovr_set s.sl b (b + (kR r + 1)) (p.2.map Tri.s) (n : Int) (by rw [List.length_map, hl]) (by rw [hr.lS]; omega)
      have a3 := ovr_set s.ff b (b + (kR r + 1)) (p.2.map Tri.f) s.fn (by rw [List.length_map, hl]) (by rw [hr.lF]; omega)
      have b3 := set_ovr s.ff b (b + (kR r + 1)) (p.2.map Tri.f) s.fn (by rw [List.length_map, hl]) (by rw [hr.lF]; omega)
      show (CkS.mk ((ovr s.ty b (p.2.map Tri.t)).set (b + (kR r + 1)) 0) ((ovr s.sl b (p.2.map Tri.s)).set (b + (kR r + 1)) (n : Int)) (ovr (s.ff.set (b + (kR r + 1)) s.fn) b (p.2.map Tri.f)) (s.sz.set f ((n : Int) + 1)) (s.V ++ [⟨x, p.1, (n : Int)⟩]) s.fn s.bad s.e) = CkS.mk (ovr s.ty b ((p.2 ++ [(⟨0, (n : Int), s.fn⟩ : Tri)]).map Tri.t)) (ovr s.sl b ((p.2 ++ [(⟨0, (n : Int), s.fn⟩ : Tri)]).map Tri.s)) (ovr s.ff b ((p.2 ++ [(⟨0, (n : Int), s.fn⟩ : Tri)]).map Tri.f)) (s.sz.set f (((n + 1 : Nat)) : Int)) (s.V ++ [⟨x, p.1, (n : Int)⟩]) s.fn s.bad s.e
      rw [a1, a2, b3, a3, List.map_append, List.map_append, List.map_append]
      rfl
     show NdL q nd fs w0 _ 10 _ 0 _ (.ok (updB s b f ⟨s.V ++ [⟨x, p.1, (n : Int)⟩], n + 1, p.2 ++ [⟨0, (n : Int), s.fn⟩]⟩))
     rw [← e2]
     exact seq_skip (fun i => noBlk (by decide) (by decide) i) _ _ _
 | .set x r, b, s, n, hfn, hz, hg, g, hr, hVn, hn9, h6 => by
  unfold SgS at hg
  unfold flS at g
  unfold kS at hr h6 ⊢
  unfold ckS
  have hat : At nd ((b + (kR r + 1) : Nat) : Int) 11 0 x [((b + kR r : Nat) : Int)] := (g.right (c := b + (kR r + 1)) (by rw [flR_len])).at
  have hm : b + (kR r + 1) < q.m := by have := hr.em; omega
  cases hv : lookV s.V x with
  | none => exact nd_nm (z1 := 40) hm hat (by simp) (by decide) (nm_none _ hm 11 0 x _ _ (.inr (.inr (.inl rfl))) (by exact hr.V) hv)
  | some v =>
   show NdC q nd fs w0 _ s (rsB s b f ((ckR fs s.fn s.V r b).bind fun p => if p.1 = v.t then .ok ⟨s.V, n, p.2 ++ [⟨0, v.s, s.fn⟩]⟩ else .error (((b + (kR r + 1) : Nat) : Int), 42)))
   rw [rsB_one hz (ckR fs s.fn s.V r b) (b + (kR r + 1)) v.s (fun u => u = v.t)]
   exact nd_oneM _ (fun r h => ckR_len h) rfl hr hat (by decide) (by decide) (by decide) v.s 0 (fun u => u = v.t) (fun _ => 0) (fun _ _ => rfl) rfl (nm_some _ hm 11 0 x _ { s with ff := s.ff.set (b + (kR r + 1)) s.fn } (.inr (.inr (.inl rfl))) (by exact hr.V) v hv) (nd_R hF r b _ hg g.left ((hr.markV v.s).part (Nat.le_refl _) (by omega)) (by omega)) (fun p hc => tl_set 0 x _ _ (by exact hr.V) v (by exact hv) (b + kR r) rfl (by omega) p.1 (ckR_ty hc (hr.markV v.s) (by omega)))
 | .put x a c, b, s, n, hfn, hz, hg, g, hr, hVn, hn9, h6 => by
  unfold SgS at hg
  unfold flS at g
  unfold kS at hr h6 ⊢
  unfold ckS
  have e1 : b + (kE a + 1 + (kE c + 1)) = b + kE a + 1 + (kE c + 1) := by omega
  rw [e1] at hr ⊢
  have hat : At nd ((b + kE a + 1 + (kE c + 1) : Nat) : Int) 12 0 x [((b + kE a : Nat) : Int), ((b + kE a + 1 + kE c : Nat) : Int)] := (g.right (c := b + kE a + 1 + (kE c + 1)) (by rw [List.length_append, flE_len, flE_len]; omega)).at
  have hm : b + kE a + 1 + (kE c + 1) < q.m := by have := hr.em; omega
  cases hv : lookV s.V x with
  | none => exact nd_nm (z1 := 40) hm hat (by simp) (by decide) (nm_none _ hm 12 0 x _ _ (.inr (.inr (.inr rfl))) (by exact hr.V) hv)
  | some v =>
   have h := nd_two (q := q) (nd := nd) (fs := fs) (w0 := w0) (a := a) (c := c) (T := fun t0 t1 => 0) (Z := fun t0 t1 => if v.t = 4 ∧ t0 = 1 ∧ t1 = 1 then 0 else 42) rfl hr hat (by decide) (by decide) (by decide) v.s rfl (nm_some _ hm 12 0 x _ { s with ff := s.ff.set (b + kE a + 1 + (kE c + 1)) s.fn } (.inr (.inr (.inr rfl))) (by exact hr.V) v hv) (fun s' h => nd_E a b s' hg.1 g.left.left h) (fun s' h => nd_E c _ s' hg.2 (g.left.right (by rw [flE_len]; omega)) h) (fun s2 t0 t1 hV h0 h1 => tl_put 0 x _ s2 (by rw [hV]; exact hr.V) v (by rw [hV]; exact hv) (b + kE a) rfl (by omega) t0 h0 (b + kE a + 1 + kE c) rfl (by omega) t1 h1)
   have e2 : rsB s b f ((ckE s.fn s.V a b).bind fun p => (ckE s.fn s.V c (b + kE a + 1)).bind fun u => if v.t = 4 ∧ p.1 = 1 ∧ u.1 = 1 then .ok ⟨s.V, n, p.2 ++ u.2 ++ [⟨0, v.s, s.fn⟩]⟩ else .error (((b + kE a + 1 + (kE c + 1) : Nat) : Int), 42)) = twoR s b (b + kE a + 1 + (kE c + 1)) a c v.s (fun t0 t1 => 0) (fun t0 t1 => if v.t = 4 ∧ t0 = 1 ∧ t1 = 1 then 0 else 42) := by
    unfold twoR
    cases ckE s.fn s.V a b with
    | error z => rfl
    | ok p =>
     cases ckE s.fn s.V c (b + kE a + 1) with
     | error z => rfl
     | ok u =>
      show rsB s b f (if v.t = 4 ∧ p.1 = 1 ∧ u.1 = 1 then .ok ⟨s.V, n, p.2 ++ u.2 ++ [⟨0, v.s, s.fn⟩]⟩ else .error (((b + kE a + 1 + (kE c + 1) : Nat) : Int), 42)) = if (if v.t = 4 ∧ p.1 = 1 ∧ u.1 = 1 then (0 : Int) else 42) = 0 then .ok (upd s b (p.2 ++ u.2 ++ [⟨0, v.s, s.fn⟩])) else .error (((b + kE a + 1 + (kE c + 1) : Nat) : Int), if v.t = 4 ∧ p.1 = 1 ∧ u.1 = 1 then 0 else 42)
      by_cases hy : v.t = 4 ∧ p.1 = 1 ∧ u.1 = 1
      ·rw [if_pos hy, if_pos hy, if_pos rfl]
       show Except.ok (updB s b f ⟨s.V, n, p.2 ++ u.2 ++ [⟨0, v.s, s.fn⟩]⟩) = _
       rw [updB_self hz]
      ·rw [if_neg hy, if_neg hy, if_neg (by decide)]
       rfl
   rw [← e2] at h
   exact h
 | .doo x l, b, s, n, hfn, hz, hg, g, hr, hVn, hn9, h6 => by
  unfold SgS at hg
  unfold flS at g
  unfold kS at hr h6 ⊢
  unfold ckS
  have hat : At nd ((b + (kEs l + 1) : Nat) : Int) 13 0 [] [((b + kEs l : Nat) : Int)] := (g.right (c := b + (kEs l + 1)) (by rw [flR_len]; rfl)).at
  have hm : b + (kEs l + 1) < q.m := by have := hr.em; omega
  have e0 : rsB s b f ((ckR fs s.fn s.V (.call x l) b).bind fun p => .ok ⟨s.V, n, p.2 ++ [⟨0, -1, s.fn⟩]⟩) = rsB s b f ((ckR fs s.fn s.V (.call x l) b).bind fun p => if True then .ok ⟨s.V, n, p.2 ++ [⟨0, -1, s.fn⟩]⟩ else .error (((b + (kEs l + 1) : Nat) : Int), 42)) := by
   cases ckR fs s.fn s.V (.call x l) b with
   | error z => rfl
   | ok p => simp only [Except.bind, if_true]
  rw [e0, rsB_one hz (ckR fs s.fn s.V (.call x l) b) (b + (kEs l + 1)) (-1) (fun _ => True)]
  exact nd_oneM (L := kEs l + 1) (cj := b + kEs l) (ckR fs s.fn s.V (.call x l) b) (fun r h => ckR_len (r := .call x l) h) rfl hr hat (by decide) (by decide) (by decide) (-1) 0 (fun _ => True) (fun _ => 0) (fun _ _ => rfl) rfl (by rw [mark_same hr (by omega)]; exact nm_rest _ 13 0 [] _ _ (by decide) (by decide) (by decide) (by decide) (by decide) (by decide)) (nd_R hF (.call x l) b _ hg g.left ((hr.markV (-1)).part (Nat.le_refl _) (by show b + kEs l + 1 ≤ _; omega)) (by show b + kEs l + 1 ≤ _; omega)) (fun p hc => by rw [if_pos trivial]; exact tl_doo 0 [] _ _ (by exact hr.V))
 | .print a, b, s, n, hfn, hz, hg, g, hr, hVn, hn9, h6 => by
  unfold SgS at hg
  unfold flS at g
  unfold kS at hr h6 ⊢
  unfold ckS
  have hat : At nd ((b + (kE a + 1) : Nat) : Int) 14 0 [] [((b + kE a : Nat) : Int)] := (g.right (c := b + (kE a + 1)) (by rw [flE_len])).at
  have hm : b + (kE a + 1) < q.m := by have := hr.em; omega
  show NdC q nd fs w0 _ s (rsB s b f ((ckE s.fn s.V a b).bind fun p => if p.1 ≠ 4 then .ok ⟨s.V, n, p.2 ++ [⟨0, -1, s.fn⟩]⟩ else .error (((b + (kE a + 1) : Nat) : Int), 42)))
  rw [rsB_one hz (ckE s.fn s.V a b) (b + (kE a + 1)) (-1) (fun u => u ≠ 4)]
  exact nd_oneM _ (fun r h => ck_lenE h) rfl hr hat (by decide) (by decide) (by decide) (-1) 0 (fun u => u ≠ 4) (fun _ => 0) (fun _ _ => rfl) rfl (by rw [mark_same hr (by omega)]; exact nm_rest _ 14 0 [] _ _ (by decide) (by decide) (by decide) (by decide) (by decide) (by decide)) (nd_E a b _ hg g.left ((hr.markV (-1)).part (Nat.le_refl _) (by omega))) (fun p hc => tl_print 0 [] _ _ (by exact hr.V) (b + kE a) rfl (by omega) p.1 (ck_tyE hc (hr.markV (-1)) (by omega)))
 | .ret0, b, s, n, hfn, hz, hg, g, hr, hVn, hn9, h6 => by
  unfold flS at g
  unfold kS at hr h6 ⊢
  unfold ckS
  have hat : At nd (b : Int) 17 0 [] [] := g.at
  have hm : b < q.m := by have := hr.em; omega
  have hnm := nm_ret (q := q) (nd := nd) (w0 := w0) b 0 [] [] { s with ff := s.ff.set b s.fn } f F hfn hFf hF.n
  by_cases hc : F.ret = 0
  ·rw [if_pos ⟨fun _ => hc, fun _ => rfl⟩] at hnm
   rw [if_pos hc]
   have h := nd_tl (q := q) (nd := nd) (fs := fs) (w0 := w0) (s := s) hm hat (by simp) (by decide) (by decide) (by decide) hnm (.nil 0 _) (tl_ret0 0 [] _ (by exact hr.V))
   rw [if_pos rfl] at h
   have e := fin_n hr [] (by simp) 0
   rw [upd_nil, List.nil_append] at e
   show NdC q nd fs w0 (b : Int) s (.ok (updB s b f ⟨s.V, n, [⟨0, -1, s.fn⟩]⟩))
   rw [updB_self hz, ← e]
   exact h
  ·rw [if_neg (fun h => hc (h.1 rfl))] at hnm
   rw [if_neg hc]
   exact nd_nm (z1 := 43) hm hat (by simp) (by decide) hnm
 | .ret1 a, b, s, n, hfn, hz, hg, g, hr, hVn, hn9, h6 => by
  unfold SgS at hg
  unfold flS at g
  unfold kS at hr h6 ⊢
  unfold ckS
  have hat : At nd ((b + (kE a + 1) : Nat) : Int) 17 0 [] [((b + kE a : Nat) : Int)] := (g.right (c := b + (kE a + 1)) (by rw [flE_len])).at
  have hm : b + (kE a + 1) < q.m := by have := hr.em; omega
  have hnm := nm_ret (q := q) (nd := nd) (w0 := w0) (b + (kE a + 1)) 0 [] [((b + kE a : Nat) : Int)] { s with ff := s.ff.set (b + (kE a + 1)) s.fn } f F hfn hFf hF.n
  by_cases hc : F.ret = 0
  ·rw [if_neg (fun h => absurd (h.2 hc) (by simp))] at hnm
   rw [if_pos hc]
   exact nd_nm (z1 := 43) hm hat (by simp) (by decide) hnm
  ·rw [if_pos ⟨fun h => absurd h (by simp), fun h => absurd h hc⟩] at hnm
   rw [if_neg hc]
   show NdC q nd fs w0 _ s (rsB s b f ((ckE s.fn s.V a b).bind fun p => if p.1 = F.ret then .ok ⟨s.V, n, p.2 ++ [⟨0, -1, s.fn⟩]⟩ else .error (((b + (kE a + 1) : Nat) : Int), 42)))
   rw [rsB_one hz (ckE s.fn s.V a b) (b + (kE a + 1)) (-1) (fun u => u = F.ret)]
   exact nd_oneM _ (fun r h => ck_lenE h) rfl hr hat (by decide) (by decide) (by decide) (-1) 0 (fun u => u = F.ret) (fun _ => 0) (fun _ _ => rfl) rfl (by rw [mark_same hr (by omega)]; exact hnm) (nd_E a b _ hg g.left ((hr.markV (-1)).part (Nat.le_refl _) (by omega))) (fun p hc => tl_ret1 0 [] _ _ (by exact hr.V) f F (by exact hfn) hFf (b + kE a) rfl (by omega) p.1 (by exact ck_tyE hc (hr.markV (-1)) (by omega)))
 | .ifs c a, b, s, n, hfn, hz, hg, g, hr, hVn, hn9, h6 => by
  unfold SgS at hg
  unfold flS at g
  unfold kS at hr h6 ⊢
  unfold ckS
  have hat : At nd ((b + (kE c + 1 + (kB a + 1)) : Nat) : Int) 15 0 [] [((b + kE c : Nat) : Int), ((b + kE c + 1 + kB a : Nat) : Int)] := (g.right (c := b + (kE c + 1 + (kB a + 1))) (by rw [List.length_append, List.length_append, flE_len, flB_len]; rfl)).at
  have h := nd_cond (q := q) (fs := fs) (w0 := w0) (.inl rfl) (j := b + (kE c + 1 + (kB a + 1))) (by omega) hr (by simp) hat hg.1 g.left.left (fun p => rsB s b f ((ckB fs s.fn F.ret a s.V n (b + kE c + 1)).bind fun r => .ok ⟨s.V, r.n, p ++ (r.l ++ [⟨0, -1, s.fn⟩]) ++ [⟨0, -1, s.fn⟩]⟩)) (fun p hc h2 => by
   have hl := ck_lenE hc
   have hr1 := hr.mark
   have hr2 := hr1.upd p.2 (c := b + kE c + 1) (by omega) (by omega)
   have hk := blk_K (fs := fs) (w0 := w0) (a := a) (b := b + kE c + 1) (f := f) (n := n) (F := F) (hr2.part (Nat.le_refl _) (by omega)) (g.left.right (by rw [flE_len]; omega)) (by omega) hz hVn hn9 (fun s' hr' hf' hV' hz' => by
    have := seq_B hF f F hFf hfk a (b + kE c + 1) 0 s' n (by rw [hf']; exact hfn) (by rw [hz']; exact hz) hg.2 (g.left.right (c := b + kE c + 1) (by rw [flE_len]; omega)).left hr' (by rw [hV']; exact hVn) hn9 (by omega)
    rw [hf', hV'] at this
    exact this)
   refine seq_one ?_
   have e1 : (upd { s with ff := s.ff.set (b + (kE c + 1 + (kB a + 1))) s.fn } b p.2).V = s.V := rfl
   have e2 : (upd { s with ff := s.ff.set (b + (kE c + 1 + (kB a + 1))) s.fn } b p.2).fn = s.fn := rfl
   rw [e1, e2] at hk
   cases hb : ckB fs s.fn F.ret a s.V n (b + kE c + 1) with
   | error z => rw [hb] at hk; exact hk
   | ok r =>
    rw [hb] at hk
    have g2 := ckB_ok a _ _ _ r hb
    have e3 := updB_upd (f := f) hr1 s.V r.n p.2 (r.l ++ [⟨0, -1, s.fn⟩]) (c := b + kE c + 1) (by omega) (by rw [List.length_append, g2.l]; show _ + (kB a + 1) ≤ _; omega)
    have e4 := updB_mark (f := f) hr s.V r.n (p.2 ++ (r.l ++ [⟨0, -1, s.fn⟩])) (by rw [List.length_append, List.length_append, g2.l, hl]; rfl)
    show BlkC q nd fs w0 _ _ (.ok (updB s b f ⟨s.V, r.n, p.2 ++ (r.l ++ [⟨0, -1, s.fn⟩]) ++ [⟨0, -1, s.fn⟩]⟩))
    rw [← e4, ← e3]
    exact hk)
  refine Eq.mp ?_ h
  congr 1
  cases ckE s.fn s.V c b with
  | error z => rfl
  | ok p =>
   show (if p.1 = 2 then _ else _) = rsB s b f (if p.1 = 2 then _ else _)
   by_cases h2 : p.1 = 2
   ·rw [if_pos h2, if_pos h2]
   ·rw [if_neg h2, if_neg h2]; exact congrArg (fun z : Nat => (Except.error ((z : Int), (42 : Int)) : RS)) (by omega)
 | .ifelse c a d, b, s, n, hfn, hz, hg, g, hr, hVn, hn9, h6 => by
  unfold SgS at hg
  unfold flS at g
  unfold kS at hr h6 ⊢
  unfold ckS
  have hat : At nd ((b + (kE c + 1 + (kB a + 1) + (kB d + 1)) : Nat) : Int) 15 0 [] [((b + kE c : Nat) : Int), ((b + kE c + 1 + kB a : Nat) : Int), ((b + kE c + 1 + kB a + 1 + kB d : Nat) : Int)] := (g.right (c := b + (kE c + 1 + (kB a + 1) + (kB d + 1))) (by rw [List.length_append, List.length_append, List.length_append, List.length_append, flE_len, flB_len, flB_len]; rfl)).at
  have h := nd_cond (q := q) (fs := fs) (w0 := w0) (.inl rfl) (j := b + (kE c + 1 + (kB a + 1) + (kB d + 1))) (by omega) hr (by simp) hat hg.1 g.left.left.left (fun p => rsB s b f ((ckB fs s.fn F.ret a s.V n (b + kE c + 1)).bind fun r => (ckB fs s.fn F.ret d s.V r.n (b + kE c + 1 + kB a + 1)).bind fun u => .ok ⟨s.V, u.n, p ++ (r.l ++ [⟨0, -1, s.fn⟩]) ++ (u.l ++ [⟨0, -1, s.fn⟩]) ++ [⟨0, -1, s.fn⟩]⟩)) (fun p hc h2 => by
   have hl := ck_lenE hc
   have hr1 := hr.mark
   have hr2 := hr1.upd p.2 (c := b + kE c + 1) (by omega) (by omega)
   have hk := blk_K (fs := fs) (w0 := w0) (a := a) (b := b + kE c + 1) (f := f) (n := n) (F := F) (hr2.part (Nat.le_refl _) (by omega)) (g.left.left.right (by rw [flE_len]; omega)) (by omega) hz hVn hn9 (fun s' hr' hf' hV' hz' => by
    have := seq_B hF f F hFf hfk a (b + kE c + 1) 0 s' n (by rw [hf']; exact hfn) (by rw [hz']; exact hz) hg.2.1 (g.left.left.right (c := b + kE c + 1) (by rw [flE_len]; omega)).left hr' (by rw [hV']; exact hVn) hn9 (by omega)
    rw [hf', hV'] at this
    exact this)
   have e1 : (upd { s with ff := s.ff.set (b + (kE c + 1 + (kB a + 1) + (kB d + 1))) s.fn } b p.2).V = s.V := rfl
   have e2 : (upd { s with ff := s.ff.set (b + (kE c + 1 + (kB a + 1) + (kB d + 1))) s.fn } b p.2).fn = s.fn := rfl
   rw [e1, e2] at hk
   cases hb : ckB fs s.fn F.ret a s.V n (b + kE c + 1) with
   | error z => rw [hb] at hk; exact seq_err hk
   | ok r =>
    rw [hb] at hk
    have g2 := ckB_ok a _ _ _ r hb
    have e3 := updB_upd (f := f) hr1 s.V r.n p.2 (r.l ++ [⟨0, -1, s.fn⟩]) (c := b + kE c + 1) (by omega) (by rw [List.length_append, g2.l]; show _ + (kB a + 1) ≤ _; omega)
    have hk : BlkC q nd fs w0 ((b + kE c + 1 + kB a : Nat) : Int) (upd { s with ff := s.ff.set (b + (kE c + 1 + (kB a + 1) + (kB d + 1))) s.fn } b p.2) (.ok (updB (upd { s with ff := s.ff.set (b + (kE c + 1 + (kB a + 1) + (kB d + 1))) s.fn } b p.2) (b + kE c + 1) f ⟨s.V, r.n, r.l ++ [⟨0, -1, s.fn⟩]⟩)) := hk
    rw [e3] at hk
    have hr3 : Rdy q (updB { s with ff := s.ff.set (b + (kE c + 1 + (kB a + 1) + (kB d + 1))) s.fn } b f ⟨s.V, r.n, p.2 ++ (r.l ++ [⟨0, -1, s.fn⟩])⟩) (b + kE c + 1 + kB a + 1) (b + (kE c + 1 + (kB a + 1) + (kB d + 1))) := hr1.updB ⟨s.V, r.n, p.2 ++ (r.l ++ [⟨0, -1, s.fn⟩])⟩ (by show _ = b + (p.2 ++ (r.l ++ [_])).length; rw [List.length_append, List.length_append, g2.l, hl]; show _ = b + (kE c + 1 + (kB a + 1)); omega) (by omega) hr.V
    have hz3 : (updB { s with ff := s.ff.set (b + (kE c + 1 + (kB a + 1) + (kB d + 1))) s.fn } b f ⟨s.V, r.n, p.2 ++ (r.l ++ [⟨0, -1, s.fn⟩])⟩).sz[f]? = some (r.n : Int) := by
     show (s.sz.set f (r.n : Int))[f]? = _
     rw [List.getElem?_set, if_pos rfl, if_pos (List.getElem?_eq_some_iff.1 hz).1]
    have hn2 : r.n ≤ 900 := by have := g2.n2; omega
    have hV2 : s.V.length ≤ r.n := by have := g2.n1; omega
    have hk2 := blk_K (fs := fs) (w0 := w0) (a := d) (b := b + kE c + 1 + kB a + 1) (f := f) (n := r.n) (F := F) (hr3.part (Nat.le_refl _) (by omega)) (g.left.right (by rw [List.length_append, flE_len, List.length_append, flB_len]; show _ = b + (kE c + 1 + (kB a + 1)); omega)) (by omega) hz3 hV2 hn2 (fun s' hr' hf' hV' hz' => by
     have := seq_B hF f F hFf hfk d (b + kE c + 1 + kB a + 1) 0 s' r.n (by rw [hf']; exact hfn) (by rw [hz']; exact hz3) hg.2.2 (g.left.right (c := b + kE c + 1 + kB a + 1) (by rw [List.length_append, flE_len, List.length_append, flB_len]; show _ = b + (kE c + 1 + (kB a + 1)); omega)).left hr' (by rw [hV']; exact hV2) hn2 (by omega)
     rw [hf', hV'] at this
     exact this)
    have e5 : (updB { s with ff := s.ff.set (b + (kE c + 1 + (kB a + 1) + (kB d + 1))) s.fn } b f ⟨s.V, r.n, p.2 ++ (r.l ++ [⟨0, -1, s.fn⟩])⟩).V = s.V := rfl
    have e6 : (updB { s with ff := s.ff.set (b + (kE c + 1 + (kB a + 1) + (kB d + 1))) s.fn } b f ⟨s.V, r.n, p.2 ++ (r.l ++ [⟨0, -1, s.fn⟩])⟩).fn = s.fn := rfl
    rw [e5, e6] at hk2
    refine seq_ok hk (seq_one ?_)
    show BlkC q nd fs w0 _ _ (rsB s b f ((ckB fs s.fn F.ret d s.V r.n (b + kE c + 1 + kB a + 1)).bind fun u => .ok ⟨s.V, u.n, p.2 ++ (r.l ++ [⟨0, -1, s.fn⟩]) ++ (u.l ++ [⟨0, -1, s.fn⟩]) ++ [⟨0, -1, s.fn⟩]⟩))
    cases hb2 : ckB fs s.fn F.ret d s.V r.n (b + kE c + 1 + kB a + 1) with
    | error z => rw [hb2] at hk2; exact hk2
    | ok u =>
     rw [hb2] at hk2
     have g3 := ckB_ok d _ _ _ u hb2
     have e7 := updB_updB (f := f) hr1 s.V s.V r.n u.n (p.2 ++ (r.l ++ [⟨0, -1, s.fn⟩])) (u.l ++ [⟨0, -1, s.fn⟩]) (c := b + kE c + 1 + kB a + 1) (by rw [List.length_append, List.length_append, g2.l, hl]; show _ = b + (kE c + 1 + (kB a + 1)); omega) (by rw [List.length_append, g3.l]; show _ + (kB d + 1) ≤ _; omega)
     have e4 := updB_mark (f := f) hr s.V u.n (p.2 ++ (r.l ++ [⟨0, -1, s.fn⟩]) ++ (u.l ++ [⟨0, -1, s.fn⟩])) (by rw [List.length_append, List.length_append, List.length_append, List.length_append, g2.l, g3.l, hl]; rfl)
     show BlkC q nd fs w0 _ _ (.ok (updB s b f ⟨s.V, u.n, p.2 ++ (r.l ++ [⟨0, -1, s.fn⟩]) ++ (u.l ++ [⟨0, -1, s.fn⟩]) ++ [⟨0, -1, s.fn⟩]⟩))
     rw [← e4, ← e7]
     exact hk2)
  refine Eq.mp ?_ h
  congr 1
  cases ckE s.fn s.V c b with
  | error z => rfl
  | ok p =>
   show (if p.1 = 2 then _ else _) = rsB s b f (if p.1 = 2 then _ else _)
   by_cases h2 : p.1 = 2
   ·rw [if_pos h2, if_pos h2]
   ·rw [if_neg h2, if_neg h2]; exact congrArg (fun z : Nat => (Except.error ((z : Int), (42 : Int)) : RS)) (by omega)
 | .whil c a, b, s, n, hfn, hz, hg, g, hr, hVn, hn9, h6 => by
  unfold SgS at hg
  unfold flS at g
  unfold kS at hr h6 ⊢
  unfold ckS
  have hat : At nd ((b + (kE c + 1 + (kB a + 1)) : Nat) : Int) 16 0 [] [((b + kE c : Nat) : Int), ((b + kE c + 1 + kB a : Nat) : Int)] := (g.right (c := b + (kE c + 1 + (kB a + 1))) (by rw [List.length_append, List.length_append, flE_len, flB_len]; rfl)).at
  have h := nd_cond (q := q) (fs := fs) (w0 := w0) (.inr rfl) (j := b + (kE c + 1 + (kB a + 1))) (by omega) hr (by simp) hat hg.1 g.left.left (fun p => rsB s b f ((ckB fs s.fn F.ret a s.V n (b + kE c + 1)).bind fun r => .ok ⟨s.V, r.n, p ++ (r.l ++ [⟨0, -1, s.fn⟩]) ++ [⟨0, -1, s.fn⟩]⟩)) (fun p hc h2 => by
   have hl := ck_lenE hc
   have hr1 := hr.mark
   have hr2 := hr1.upd p.2 (c := b + kE c + 1) (by omega) (by omega)
   have hk := blk_K (fs := fs) (w0 := w0) (a := a) (b := b + kE c + 1) (f := f) (n := n) (F := F) (hr2.part (Nat.le_refl _) (by omega)) (g.left.right (by rw [flE_len]; omega)) (by omega) hz hVn hn9 (fun s' hr' hf' hV' hz' => by
    have := seq_B hF f F hFf hfk a (b + kE c + 1) 0 s' n (by rw [hf']; exact hfn) (by rw [hz']; exact hz) hg.2 (g.left.right (c := b + kE c + 1) (by rw [flE_len]; omega)).left hr' (by rw [hV']; exact hVn) hn9 (by omega)
    rw [hf', hV'] at this
    exact this)
   refine seq_one ?_
   have e1 : (upd { s with ff := s.ff.set (b + (kE c + 1 + (kB a + 1))) s.fn } b p.2).V = s.V := rfl
   have e2 : (upd { s with ff := s.ff.set (b + (kE c + 1 + (kB a + 1))) s.fn } b p.2).fn = s.fn := rfl
   rw [e1, e2] at hk
   cases hb : ckB fs s.fn F.ret a s.V n (b + kE c + 1) with
   | error z => rw [hb] at hk; exact hk
   | ok r =>
    rw [hb] at hk
    have g2 := ckB_ok a _ _ _ r hb
    have e3 := updB_upd (f := f) hr1 s.V r.n p.2 (r.l ++ [⟨0, -1, s.fn⟩]) (c := b + kE c + 1) (by omega) (by rw [List.length_append, g2.l]; show _ + (kB a + 1) ≤ _; omega)
    have e4 := updB_mark (f := f) hr s.V r.n (p.2 ++ (r.l ++ [⟨0, -1, s.fn⟩])) (by rw [List.length_append, List.length_append, g2.l, hl]; rfl)
    show BlkC q nd fs w0 _ _ (.ok (updB s b f ⟨s.V, r.n, p.2 ++ (r.l ++ [⟨0, -1, s.fn⟩]) ++ [⟨0, -1, s.fn⟩]⟩))
    rw [← e4, ← e3]
    exact hk)
  refine Eq.mp ?_ h
  congr 1
  cases ckE s.fn s.V c b with
  | error z => rfl
  | ok p =>
   show (if p.1 = 2 then _ else _) = rsB s b f (if p.1 = 2 then _ else _)
   by_cases h2 : p.1 = 2
   ·rw [if_pos h2, if_pos h2]
   ·rw [if_neg h2, if_neg h2]; exact congrArg (fun z : Nat => (Except.error ((z : Int), (42 : Int)) : RS)) (by omega)
theorem seq_B (hF : FsOK fs) (f : Nat) (F : Fnc) (hFf : fs[f]? = some F) (hfk : f < q.k) : ∀ (l : Bl) (b i : Nat) (s : CkS) (n : Nat), s.fn = (f : Int) → s.sz[f]? = some (n : Int) → SgB l → FlAt nd b (flB l b) → Rdy q s b (b + kB l) → s.V.length ≤ n → n ≤ 900 → b + kB l ≤ 1000000 → SeqI (fun _ => true) (NdC q nd fs w0) i (rootB l b) s (rsB s b f (ckB fs s.fn F.ret l s.V n b))
 | .nil, b, i, s, n, hfn, hz, hg, g, hr, hVn, hn9, h6 => by
  unfold rootB ckB
  show SeqI _ _ i [] s (.ok (updB s b f ⟨s.V, n, []⟩))
  rw [updB_self hz, upd_nil]
  exact .nil i s
 | .cons st l, b, i, s, n, hfn, hz, hg, g, hr, hVn, hn9, h6 => by
  unfold SgB at hg
  unfold flB at g
  unfold kB at hr h6
  unfold rootB ckB
  have h1 := nd_S hF f F hFf hfk st b s n hfn hz hg.1 g.left (hr.part (Nat.le_refl _) (by omega)) hVn hn9 (by omega)
  cases hc : ckS fs s.fn F.ret st s.V n b with
  | error z => rw [hc] at h1; exact seq_err h1
  | ok r =>
   rw [hc] at h1
   have g1 := ckS_ok st _ _ _ r hc
   have hn2 : r.n ≤ 900 := by have := g1.n2; omega
   have hv2 := g1.vn hVn
   have hr2 : Rdy q (updB s b f r) (b + kS st + 1) (b + (kS st + 1 + kB l)) := hr.updB r (by rw [g1.l]; omega) (by omega) (by omega)
   have hz2 : (updB s b f r).sz[f]? = some (r.n : Int) := by
    show (s.sz.set f (r.n : Int))[f]? = _
    rw [List.getElem?_set, if_pos rfl, if_pos (List.getElem?_eq_some_iff.1 hz).1]
   have h2 := seq_B hF f F hFf hfk l (b + kS st + 1) (i + 1) (updB s b f r) r.n hfn hz2 hg.2 (g.right (by rw [flS_len]; omega)) (hr2.part (Nat.le_refl _) (by omega)) hv2 hn2 (by omega)
   have e1 : ckB fs (updB s b f r).fn F.ret l (updB s b f r).V r.n (b + kS st + 1) = ckB fs s.fn F.ret l r.v r.n (b + kS st + 1) := rfl
   rw [e1] at h2
   show SeqI _ _ i _ s (rsB s b f ((ckB fs s.fn F.ret l r.v r.n (b + kS st + 1)).bind fun u => .ok ⟨u.v, u.n, r.l ++ u.l⟩))
   cases hc2 : ckB fs s.fn F.ret l r.v r.n (b + kS st + 1) with
   | error z => rw [hc2] at h2; exact seq_ok h1 h2
   | ok u =>
    rw [hc2] at h2
    have g2 := ckB_ok l _ _ _ u hc2
    have e2 := updB_updB (f := f) hr r.v u.v r.n u.n r.l u.l (c := b + kS st + 1) (by rw [g1.l]; omega) (by rw [g2.l]; omega)
    show SeqI _ _ i _ s (.ok (updB s b f ⟨u.v, u.n, r.l ++ u.l⟩))
    rw [← e2]
    exact seq_ok h1 h2
end
end
end Go.Proofs.YtbhpnioggpgbhaaGreatDoor
