/-
  Layer 2: the parser in memory. Written by an AI agent.
-/
import Derived.Test.YtgelggdgbmldiaaDoorPaB
import Derived.Test.YtgelggdgbmldiaaDoorLxYc
namespace Go.Proofs.YtgelggdgbmldiaaDoor
open Go Go.RowKit Go.Shelf
set_option linter.unusedVariables false
set_option linter.unusedSimpArgs false

/-- A node, and where the row of those below it lies. -/
structure NM where
  d : Nd
  a : Option Addr
  c : Nat
def NM.cells (x : NM) : List Value := [.int .i64 x.d.k, .int .i64 x.d.ln, .int .i64 x.d.n, .string (ofL x.d.s), .slice x.a x.d.l.length x.c]
def flatN (L : List NM) : List Value := L.flatMap NM.cells
theorem flatN_cons (a : NM) (L : List NM) : flatN (a :: L) = a.cells ++ flatN L := by simp [flatN]
theorem flatN_append (L M : List NM) : flatN (L ++ M) = flatN L ++ flatN M := by simp [flatN]
theorem flatN_one (x : NM) : flatN [x] = x.cells := by simp [flatN]
theorem NM.one (x : NM) : ∀ u ∈ x.cells, u.oneCell' = true := by
  intro u hu
  simp only [NM.cells, List.mem_cons, List.not_mem_nil, or_false] at hu
  rcases hu with rfl | rfl | rfl | rfl | rfl <;> rfl

/-- A row of numbers, where it lies. -/
def RdI (w : World) (a : Option Addr) (l : List Int) : Prop := 0 < l.length → ∃ b off, a = some ⟨b, off, none⟩ ∧ ∀ k, k < l.length → w.cell? ⟨b, off + k, none⟩ = some (.int .i64 (l.getD k 0))
theorem RdI.keep {w w' : World} {R : Nat → Prop} {a : Option Addr} {l : List Int} (h : RdI w a l) (hk : Keeps R w w') (hr : 0 < l.length → ∀ b off, a = some ⟨b, off, none⟩ → ¬ R b) : RdI w' a l := fun h0 => by
  obtain ⟨b, off, e, hc⟩ := h h0
  have hb : b < w.heap.size := cell_ltk (hc 0 h0)
  exact ⟨b, off, e, fun k hk2 => (hk.cell hb (hr h0 b off e)).trans (hc k hk2)⟩
theorem RdI.lt {w : World} {a : Option Addr} {l : List Int} (h : RdI w a l) (h0 : 0 < l.length) {b off : Nat} (e : a = some ⟨b, off, none⟩) : b < w.heap.size := by
  obtain ⟨b', off', e', hc⟩ := h h0
  rw [e] at e'
  cases e'
  exact cell_ltk (hc 0 h0)
theorem RdT.keepR {w w' : World} {R : Nat → Prop} {A : Option Addr} {L : List Tok} (h : RdT w A L) (hk : Keeps R w w') (hr : 0 < L.length → ∀ b off, A = some ⟨b, off, none⟩ → ¬ R b) : RdT w' A L := fun h0 => by
  obtain ⟨b, off, e, hc⟩ := h h0
  have hb : b < w.heap.size := cell_ltk (hc 0 h0).1
  have hn := hr h0 b off e
  refine ⟨b, off, e, fun k hk2 => ?_⟩
  obtain ⟨c0, c1, c2⟩ := hc k hk2
  exact ⟨(hk.cell hb hn).trans c0, (hk.cell hb hn).trans c1, (hk.cell hb hn).trans c2⟩

/-- Tokens as a lexer tells them: the last one is the end, and no other. -/
structure TokOK (T : List Tok) : Prop where
  ne : 0 < T.length
  le : T.length ≤ 1000
  last : (T.getD (T.length - 1) default).k = 0
  inner : ∀ i, i < T.length - 1 → (T.getD i default).k ≠ 0
  num : ∀ i, i < T.length → (T.getD i default).k = 1 → (T.getD i default).x ≠ [] ∧ (∀ c ∈ (T.getD i default).x, dig c = true) ∧ numV (T.getD i default).x ≤ 9223372036854775807
  long : ∀ i, i < T.length → (T.getD i default).x.length ≤ 1000
  pos : ∀ i, i < T.length → (T.getD i default).p ≤ 1000

/-- The library's variable holds an error, ahead of all that is the parser's. -/
def ErrP (P : Nat) (R : Nat → Prop) (w : World) : Prop := ∃ B0, B0 ≤ P ∧ (∀ b, R b → B0 ≤ b) ∧ ∃ g tp p, Tryd.prog.globalNamed "strconv.ErrRange" = some g ∧ g < B0 ∧ g < w.heap.size ∧ w.var? Tryd.prog "strconv.ErrRange" = some #[.iface tp p]
theorem ErrP.errW {P : Nat} {R : Nat → Prop} {w : World} (h : ErrP P R w) : ErrW w := by
  obtain ⟨B0, _, _, g, tp, p, h1, _, h2, h3⟩ := h
  exact ⟨g, tp, p, h1, h2, h3⟩
theorem ErrP.keep {P : Nat} {R R' S : Nat → Prop} {w w' : World} (h : ErrP P R w) (k : Keeps S w w') (hS : ∀ b, S b → R b ∨ P ≤ b) (hR : ∀ b, R' b → R b ∨ P ≤ b) : ErrP P R' w' := by
  obtain ⟨B0, hB, hr, g, tp, p, h1, h2, h3, h4⟩ := h
  have out : ∀ b, (R b ∨ P ≤ b) → B0 ≤ b := fun b hb => hb.elim (hr b) (fun hb => Nat.le_trans hB hb)
  refine ⟨B0, hB, fun b hb => out b (hR b hb), g, tp, p, h1, h2, Nat.lt_of_lt_of_le h3 k.size, ?_⟩
  unfold World.var? at h4 ⊢
  rw [h1] at h4 ⊢
  simp only [Option.bind_some] at h4 ⊢
  rw [k.block g h3 (fun hs => by have := out g (hS g hs); omega)]
  exact h4

/-- A parser in memory: at block P, in blocks of R alone. -/
structure ParX (w : World) (P : Nat) (src : ByteArray) (T : List Tok) (A : Option Addr) (cT : Nat) (R : Nat → Prop) (s : PS) (v : Value) (L : List NM) : Prop where
  c0 : w.cell? ⟨P, 0, none⟩ = some (.string src)
  c1 : w.cell? ⟨P, 1, none⟩ = some (.slice A T.length cT)
  c2 : w.cell? ⟨P, 2, none⟩ = some (.int .i64 (s.i : Int))
  c3 : w.cell? ⟨P, 3, none⟩ = some (.int .i64 (s.pl : Int))
  c4 : w.cell? ⟨P, 4, none⟩ = some (.int .i64 (s.er : Int))
  c5 : w.cell? ⟨P, 5, none⟩ = some v
  c6 : w.cell? ⟨P, 6, none⟩ = some (.int .i64 s.dp)
  fz : ∀ k, w.frozen? ⟨P, k, none⟩ = false
  lt : ∀ b, R b → b < w.heap.size
  rp : R P
  tok : RdT w A T
  tb : ∀ b off, A = some ⟨b, off, none⟩ → R b ∧ b ≠ P ∧ ∀ g, v.ownBlock = some g → b ≠ g
  own : w.ownsRow 0 33 5 v L.length (flatN L)
  vb : ∀ g, v.ownBlock = some g → R g ∧ g ≠ P
  nd : L.map NM.d = s.nd
  ls : ∀ x ∈ L, RdI w x.a x.d.l ∧ (0 < x.d.l.length → ∀ b off, x.a = some ⟨b, off, none⟩ → R b ∧ b ≠ P ∧ ∀ g, v.ownBlock = some g → b ≠ g)
  hi : s.i < T.length
  ok : TokOK T
  er : ErrP P R w
def Par (w : World) (P : Nat) (src : ByteArray) (T : List Tok) (R : Nat → Prop) (s : PS) : Prop := ∃ A cT v L, ParX w P src T A cT R s v L

/-- What a call may do: it writes in R alone, and what is its own behind it was so ahead of it, or is new. -/
def Fr (R : Nat → Prop) (w : World) (R' : Nat → Prop) (w' : World) : Prop := Keeps R w w' ∧ ∀ b, b < w.heap.size → R' b → R b
theorem Fr.refl (R : Nat → Prop) (w : World) : Fr R w R w := ⟨Keeps.refl _ _, fun _ _ h => h⟩
theorem Fr.trans {R R1 R2 : Nat → Prop} {w w1 w2 : World} (h : Fr R w R1 w1) (k : Fr R1 w1 R2 w2) : Fr R w R2 w2 :=
  ⟨h.1.trans k.1 (fun x hx hr => h.2 x hx hr), fun b hb hr => h.2 b hb (k.2 b (Nat.lt_of_lt_of_le hb h.1.size) hr)⟩
theorem Fr.keeps {R R1 : Nat → Prop} {w w1 w2 : World} (h : Fr R w R1 w1) (k : Keeps (fun _ => False) w1 w2) : Fr R w R1 w2 :=
  ⟨h.1.trans k (fun _ _ h => h.elim), h.2⟩
theorem Fr.local {R R1 : Nat → Prop} {w w1 : World} (h : Fr R w R1 w1) {X : Nat} (hX : w.heap.size ≤ X) (k : Nat) (u : Value) : Fr R w R1 (w1.setCell ⟨X, k, none⟩ u) :=
  ⟨h.1.setCell (p := ⟨X, k, none⟩) (fun hb => absurd (show X < w.heap.size from hb) (by omega)) u, h.2⟩
theorem Fr.adds {R R1 R2 : Nat → Prop} {w w1 w2 : World} (h : Fr R w R1 w1) {X : Nat} (hX : w.heap.size ≤ X) (k : Keeps R1 w1 w2) (hr : ∀ b, b < w1.heap.size → R2 b → R1 b ∨ b = X) : Fr R w R2 w2 :=
  ⟨h.1.trans k (fun x hx hr => h.2 x hx hr), fun b hb h2 => (hr b (Nat.lt_of_lt_of_le hb h.1.size) h2).elim (h.2 b hb) (fun e => by omega)⟩

theorem ParX.lo {w : World} {P : Nat} {src : ByteArray} {T : List Tok} {A : Option Addr} {cT : Nat} {R : Nat → Prop} {s : PS} {v : Value} {L : List NM} (h : ParX w P src T A cT R s v L) : P < w.heap.size := h.lt P h.rp

theorem ParX.keepR {w w' : World} {P : Nat} {src : ByteArray} {T : List Tok} {A : Option Addr} {cT : Nat} {R : Nat → Prop} {s : PS} {v : Value} {L : List NM} (h : ParX w P src T A cT R s v L) {S : Nat → Prop} (k : Keeps S w w') (hS : ∀ b, R b → ¬ S b) (hSP : ∀ b, S b → P ≤ b) : ParX w' P src T A cT R s v L := by
  have hP := hS P h.rp
  have hlt := h.lo
  exact { c0 := (k.cell hlt hP).trans h.c0, c1 := (k.cell hlt hP).trans h.c1, c2 := (k.cell hlt hP).trans h.c2, c3 := (k.cell hlt hP).trans h.c3, c4 := (k.cell hlt hP).trans h.c4, c5 := (k.cell hlt hP).trans h.c5, c6 := (k.cell hlt hP).trans h.c6, fz := fun j => (k.frozen hlt hP).trans (h.fz j), lt := fun b hb => Nat.lt_of_lt_of_le (h.lt b hb) k.size, rp := h.rp, tok := h.tok.keepR k (fun _ b off e => hS b (h.tb b off e).1), tb := h.tb, own := ownsRow_keep h.own (fun g hg => k.block g (own_ltk h.own hg) (hS g (h.vb g hg).1)), vb := h.vb, nd := h.nd, ls := fun x hx => ⟨(h.ls x hx).1.keep k (fun h0 b off e => hS b ((h.ls x hx).2 h0 b off e).1), (h.ls x hx).2⟩, hi := h.hi, ok := h.ok, er := h.er.keep k (fun b hb => .inr (hSP b hb)) (fun b hb => .inl hb) }
theorem Par.keepR {w w' : World} {P : Nat} {src : ByteArray} {T : List Tok} {R : Nat → Prop} {s : PS} (h : Par w P src T R s) {S : Nat → Prop} (k : Keeps S w w') (hS : ∀ b, R b → ¬ S b) (hSP : ∀ b, S b → P ≤ b) : Par w' P src T R s := by
  obtain ⟨A, cT, v, L, h⟩ := h
  exact ⟨A, cT, v, L, h.keepR k hS hSP⟩
theorem Par.keep {w w' : World} {P : Nat} {src : ByteArray} {T : List Tok} {R : Nat → Prop} {s : PS} (h : Par w P src T R s) (k : Keeps (fun _ => False) w w') : Par w' P src T R s := h.keepR k (fun _ _ h => h) (fun _ h => h.elim)
theorem Par.local {w : World} {P : Nat} {src : ByteArray} {T : List Tok} {R : Nat → Prop} {s : PS} (h : Par w P src T R s) {X : Nat} (hX : ¬ R X) (hPX : P < X) (k : Nat) (u : Value) : Par (w.setCell ⟨X, k, none⟩ u) P src T R s :=
  h.keepR (S := fun b => b = X) ((Keeps.refl (fun b => b = X) w).setCell (p := ⟨X, k, none⟩) (fun _ => rfl) u) (fun b hb e => hX (e ▸ hb)) (fun b e => by have e : b = X := e; omega)
theorem Par.lt {w : World} {P : Nat} {src : ByteArray} {T : List Tok} {R : Nat → Prop} {s : PS} (h : Par w P src T R s) : ∀ b, R b → b < w.heap.size := by
  obtain ⟨A, cT, v, L, h⟩ := h
  exact h.lt
theorem Par.rp {w : World} {P : Nat} {src : ByteArray} {T : List Tok} {R : Nat → Prop} {s : PS} (h : Par w P src T R s) : R P := by
  obtain ⟨A, cT, v, L, h⟩ := h
  exact h.rp
theorem Par.lo {w : World} {P : Nat} {src : ByteArray} {T : List Tok} {R : Nat → Prop} {s : PS} (h : Par w P src T R s) : P < w.heap.size := h.lt P h.rp
theorem Par.new {w : World} {P : Nat} {src : ByteArray} {T : List Tok} {R : Nat → Prop} {s : PS} (h : Par w P src T R s) : ¬ R w.heap.size := fun hr => Nat.lt_irrefl _ (h.lt _ hr)

/-- The cell of a number is written. -/
theorem ParX.set {w : World} {P : Nat} {src : ByteArray} {T : List Tok} {A : Option Addr} {cT : Nat} {R : Nat → Prop} {s s' : PS} {v : Value} {L : List NM} (h : ParX w P src T A cT R s v L) (j : Nat) (z : Int)
    (hj : (j = 2 ∧ z = s'.i ∧ s'.pl = s.pl ∧ s'.er = s.er ∧ s'.dp = s.dp) ∨ (j = 3 ∧ z = s'.pl ∧ s'.i = s.i ∧ s'.er = s.er ∧ s'.dp = s.dp) ∨ (j = 4 ∧ z = s'.er ∧ s'.i = s.i ∧ s'.pl = s.pl ∧ s'.dp = s.dp) ∨ (j = 6 ∧ z = s'.dp ∧ s'.i = s.i ∧ s'.pl = s.pl ∧ s'.er = s.er))
    (hn : s'.nd = s.nd) (hi : s'.i < T.length) : ParX (w.setCell ⟨P, j, none⟩ (.int .i64 z)) P src T A cT R s' v L ∧ Fr R w R (w.setCell ⟨P, j, none⟩ (.int .i64 z)) := by
  have k : Keeps (fun b => b = P) w (w.setCell ⟨P, j, none⟩ (.int .i64 z)) := (Keeps.refl (fun b => b = P) w).setCell (p := ⟨P, j, none⟩) (fun _ => rfl) _
  have hlt := h.lo
  have same : ∀ i x, j = i → w.cell? ⟨P, i, none⟩ = some x → (w.setCell ⟨P, j, none⟩ (.int .i64 z)).cell? ⟨P, i, none⟩ = some (.int .i64 z) := fun i x e hx => by subst e; exact cell_same w P j _ x hx
  have oth : ∀ i x, j ≠ i → w.cell? ⟨P, i, none⟩ = some x → (w.setCell ⟨P, j, none⟩ (.int .i64 z)).cell? ⟨P, i, none⟩ = some x := fun i x e hx => (cell_other w j i _ (.inl e)).trans hx
  refine ⟨?_, k.mono (fun b _ e => by rw [e]; exact h.rp), fun _ _ h => h⟩
  refine { c0 := oth _ _ (by omega) h.c0, c1 := oth _ _ (by omega) h.c1, c2 := ?_, c3 := ?_, c4 := ?_, c5 := oth _ _ (by omega) h.c5, c6 := ?_, fz := fun i => (World.frozen?_setCell w _ _ _).trans (h.fz i), lt := fun b hb => Nat.lt_of_lt_of_le (h.lt b hb) k.size, rp := h.rp, tok := h.tok.keepR k (fun _ b off e => (h.tb b off e).2.1), tb := h.tb, own := ownsRow_keep h.own (fun g hg => k.block g (own_ltk h.own hg) (h.vb g hg).2), vb := h.vb, nd := by rw [hn]; exact h.nd, ls := fun x hx => ⟨(h.ls x hx).1.keep k (fun h0 b off e => ((h.ls x hx).2 h0 b off e).2.1), (h.ls x hx).2⟩, hi := hi, ok := h.ok, er := h.er.keep k (fun b e => .inr (by have e : b = P := e; omega)) (fun b hb => .inl hb) }
  · rcases hj with ⟨rfl, rfl, _, _, _⟩ | ⟨rfl, _, e, _, _⟩ | ⟨rfl, _, e, _, _⟩ | ⟨rfl, _, e, _, _⟩
    · exact same 2 _ rfl h.c2
    · rw [e]; exact oth 2 _ (by omega) h.c2
    · rw [e]; exact oth 2 _ (by omega) h.c2
    · rw [e]; exact oth 2 _ (by omega) h.c2
  · rcases hj with ⟨rfl, _, e, _, _⟩ | ⟨rfl, rfl, _, _, _⟩ | ⟨rfl, _, _, e, _⟩ | ⟨rfl, _, _, e, _⟩
    · rw [e]; exact oth 3 _ (by omega) h.c3
    · exact same 3 _ rfl h.c3
    · rw [e]; exact oth 3 _ (by omega) h.c3
    · rw [e]; exact oth 3 _ (by omega) h.c3
  · rcases hj with ⟨rfl, _, _, e, _⟩ | ⟨rfl, _, _, e, _⟩ | ⟨rfl, rfl, _, _, _⟩ | ⟨rfl, _, _, _, e⟩
    · rw [e]; exact oth 4 _ (by omega) h.c4
    · rw [e]; exact oth 4 _ (by omega) h.c4
    · exact same 4 _ rfl h.c4
    · rw [e]; exact oth 4 _ (by omega) h.c4
  · rcases hj with ⟨rfl, _, _, _, e⟩ | ⟨rfl, _, _, _, e⟩ | ⟨rfl, _, _, _, e⟩ | ⟨rfl, rfl, _, _, _⟩
    · rw [e]; exact oth 6 _ (by omega) h.c6
    · rw [e]; exact oth 6 _ (by omega) h.c6
    · rw [e]; exact oth 6 _ (by omega) h.c6
    · exact same 6 _ rfl h.c6

/-- What a call of the parser's leaves. -/
def Post (P : Nat) (src : ByteArray) (T : List Tok) (R : Nat → Prop) (w : World) (r : Value) (s' : PS) (e : Ending) (w' : World) : Prop :=
  e = .returned r ∧ ∃ R', Par w' P src T R' s' ∧ Fr R w R' w'

/-- A block of the call's own. -/
structure Loc (w : World) (R : Nat → Prop) (X : Nat) (vs : List Value) : Prop where
  lt : X < w.heap.size
  out : ¬ R X
  cells : ∀ k u, vs[k]? = some u → w.cell? ⟨X, k, none⟩ = some u
  fz : ∀ k, w.frozen? ⟨X, k, none⟩ = false
theorem Loc.keep {w w' : World} {R R' : Nat → Prop} {X : Nat} {vs : List Value} (h : Loc w R X vs) (f : Fr R w R' w') : Loc w' R' X vs :=
  ⟨Nat.lt_of_lt_of_le h.lt f.1.size, fun hr => h.out (f.2 X h.lt hr), fun k u hu => (f.1.cell h.lt h.out).trans (h.cells k u hu), fun k => (f.1.frozen h.lt h.out).trans (h.fz k)⟩
theorem Loc.keeps {w w' : World} {R : Nat → Prop} {X : Nat} {vs : List Value} (h : Loc w R X vs) (f : Keeps (fun _ => False) w w') : Loc w' R X vs :=
  h.keep ((Fr.refl R w).keeps f)

theorem Loc.new {w : World} {R : Nat → Prop} (hR : ¬ R w.heap.size) (vs : List Value) (t : TypeId) : Loc (w.alloc (.cells vs.toArray t)) R w.heap.size vs :=
  ⟨by simp, hR, fun k u hu => by rw [World.cell?_alloc_mark]; simpa using hu, fun k => by rw [World.frozen?_alloc_mark]; simp⟩
theorem Keeps.one (w : World) (o : Obj) : Keeps (fun _ => False) w (w.alloc o) := (Keeps.refl _ _).alloc _

end Go.Proofs.YtgelggdgbmldiaaDoor
