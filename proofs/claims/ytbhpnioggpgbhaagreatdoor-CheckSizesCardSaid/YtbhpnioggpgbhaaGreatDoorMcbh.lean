/-
 Layer 4: the program's checker on functions. Written by an AI agent.
 A region that draws its order and makes memory in it: makes that do not hang on each other, in whatever order they come. Written by an AI agent.
 Layer 4: heads as data. Written by an AI agent.
-/
import Derived.Test.YtbhpnioggpgbhaaGreatDoorMcbg
namespace Go.Proofs.YtbhpnioggpgbhaaGreatDoor
open Go Go.RowKit Go.Shelf
set_option linter.unusedVariables false
set_option linter.unusedSimpArgs false
/-- What the params come to. -/
def rsP (s : CkS) (f : Nat) : CR (List Vb) → RS
 | .ok V => .ok { s with V := V, sz := s.sz.set f (V.length : Int) }
 | .error z => .error (z.1, (z.2 : Int))
theorem ckPs_ok (body : Int) : ∀ (l : List (List UInt8 × Int)) (V W : List Vb), ckPs body l V = .ok W → W.length = V.length + l.length
 | [], V, W, h => by cases h; rfl
 | p :: l, V, W, h => by
  unfold ckPs at h
  split at h
  ·cases h
  ·rw [ckPs_ok body l _ W h, List.length_append]
   show V.length + 1 + l.length = V.length + (l.length + 1)
   omega
theorem ps_I {q : CkQ} (body : Int) (f : Nat) (hf : f < q.k) : ∀ (l : List (List UInt8 × Int)) (s : CkS), s.fn = (f : Int) → s.sz[f]? = some (s.V.length : Int) → s.V.length + l.length ≤ 900 → PsI q body f l s (rsP s f (ckPs body l s.V))
 | [], s, hfn, hz, hl => by
  have e : ({ s with V := s.V, sz := s.sz.set f (s.V.length : Int) } : CkS) = s := by rw [set_same _ _ _ hz]
  show PsI q body f [] s (.ok { s with V := s.V, sz := s.sz.set f (s.V.length : Int) })
  rw [e]
  exact .nil s
 | p :: l, s, hfn, hz, hl => by
  have hl : s.V.length + (l.length + 1) ≤ 900 := hl
  unfold ckPs
  cases hv : lookV s.V p.1 with
  | some v =>
   rw [if_pos (by simp)]
   exact .bad p l s v (by omega) hv
  | none =>
   rw [if_neg (by simp)]
   have hfl := (List.getElem?_eq_some_iff.1 hz).1
   have ih := ps_I (q := q) body f hf l { s with sz := s.sz.set f ((s.V.length : Int) + 1), V := s.V ++ [⟨p.1, p.2, (s.V.length : Int)⟩] } hfn (by
    show (s.sz.set f ((s.V.length : Int) + 1))[f]? = some (((s.V ++ [_]).length : Nat) : Int)
    rw [List.getElem?_set, if_pos rfl, if_pos hfl, List.length_append]
    rfl) (by show (s.V ++ [_]).length + l.length ≤ 900; rw [List.length_append]; show s.V.length + 1 + l.length ≤ 900; omega)
   have e : rsP { s with sz := s.sz.set f ((s.V.length : Int) + 1), V := s.V ++ [⟨p.1, p.2, (s.V.length : Int)⟩] } f (ckPs body l (s.V ++ [⟨p.1, p.2, (s.V.length : Int)⟩])) = rsP s f (ckPs body l (s.V ++ [⟨p.1, p.2, (s.V.length : Int)⟩])) := by
    cases ckPs body l (s.V ++ [⟨p.1, p.2, (s.V.length : Int)⟩]) with
    | error z => rfl
    | ok V =>
     show Except.ok ({ s with sz := (s.sz.set f ((s.V.length : Int) + 1)).set f (V.length : Int), V := V } : CkS) = _
     rw [List.set_set]
     rfl
   have ih : PsI q body f l _ (rsP { s with sz := s.sz.set f ((s.V.length : Int) + 1), V := s.V ++ [⟨p.1, p.2, (s.V.length : Int)⟩] } f (ckPs body l (s.V ++ [⟨p.1, p.2, (s.V.length : Int)⟩]))) := ih
   rw [e] at ih
   exact .ok p l s _ s.V.length (by omega) hv hz (by omega) hfn hf ih
section
variable (q : CkQ) (nd : List Nd) (fs : List Fnc) (w0 : World)
def FunC (f : Nat) (s : CkS) (r : RS) : Prop := ∀ w R, Ck w q nd fs w0 R s → Calls Tryz.prog 28 #[.pointer (some ⟨q.P, 0, none⟩), .int .i64 f] w (OutC q nd fs w0 R w r)
/-- Functions, one behind the other: from a number on, so many. -/
inductive FunI : Nat → Nat → CkS → RS → Prop
 | nil (i : Nat) (s : CkS) : FunI i 0 s (.ok s)
 | ok (i n : Nat) (s s1 : CkS) (r : RS) : FunC q nd fs w0 i s (.ok s1) → FunI (i + 1) n s1 r → FunI i (n + 1) s r
 | bad (i n : Nat) (s : CkS) (z : Int × Int) : FunC q nd fs w0 i s (.error z) → FunI i (n + 1) s (.error z)
end
/-- A function's body stands where it says. -/
def BodyT : List (Fnc × Bl) → Nat → Prop
 | [], _ => True
 | p :: l, b => p.1.body = ((b + kB p.2 : Nat) : Int) ∧ SgB p.2 ∧ p.1.ps.length ≤ 900 ∧ BodyT l (b + kB p.2 + 1)
/-- What functions have come to. -/
def rsT (s : CkS) (i b : Nat) : CR (List Nat × List Tri) → RS → Prop
 | .ok r, .ok s1 => s1.ty = ovr s.ty b (r.2.map Tri.t) ∧ s1.sl = ovr s.sl b (r.2.map Tri.s) ∧ s1.ff = ovr s.ff b (r.2.map Tri.f) ∧ s1.sz = ovr s.sz i (r.1.map (fun n : Nat => (n : Int)))
 | .error z, .error y => y = (z.1, (z.2 : Int))
 | _, _ => False
theorem ckT_len {fs : List Fnc} : ∀ (l : List (Fnc × Bl)) (i b : Nat) (r : List Nat × List Tri), ckT fs l i b = .ok r → r.1.length = l.length ∧ r.2.length = kT l
 | [], i, b, r, h => by cases h; exact ⟨rfl, rfl⟩
 | p :: l, i, b, r, h => by
  unfold ckT at h
  obtain ⟨V, h1, h2⟩ := bind_ok h
  obtain ⟨u, h3, h4⟩ := bind_ok h2
  obtain ⟨x, h5, h6⟩ := bind_ok h4
  obtain ⟨i1, i2⟩ := ckT_len l _ _ x h5
  have hk := ckB_ok p.2 _ _ _ u h3
  cases h6
  refine ⟨by show x.1.length + 1 = l.length + 1; rw [i1], ?_⟩
  show (u.l ++ [_] ++ x.2).length = kB p.2 + 1 + kT l
  rw [List.length_append, List.length_append, hk.l, i2]
  rfl
section
variable {q : CkQ} {nd : List Nd} {fs : List Fnc} {w0 : World}
/-- A state whose functions from a number on have no slots yet. -/
def Zer (q : CkQ) (s : CkS) (i : Nat) : Prop := ∀ j, i ≤ j → j < q.k → s.sz[j]? = some 0
theorem fn_T (hF : FsOK fs) (hqk : q.k = fs.length) : ∀ (l : List (Fnc × Bl)) (pre : List Fnc) (b : Nat) (s : CkS), fs = pre ++ l.map Prod.fst → BodyT l b → FlAt nd b (flT l b) → Rdy q { s with V := [] } b (b + kT l) → Zer q s pre.length → b + kT l ≤ 1000000 → ∃ r, FunI q nd fs w0 pre.length l.length s r ∧ rsT s pre.length b (ckT fs l pre.length b) r
 | [], pre, b, s, he, hb, g, hr, hz, h6 => ⟨.ok s, .nil _ _, by show s.ty = ovr s.ty b [] ∧ s.sl = ovr s.sl b [] ∧ s.ff = ovr s.ff b [] ∧ s.sz = ovr s.sz _ []; simp only [ovr_nil, and_self]⟩
 | p :: l, pre, b, s, he, hb, g, hr, hz, h6 => by
  obtain ⟨hb1, hb2, hb3, hb4⟩ := hb
  have g : FlAt nd b (flK p.2 b ++ flT l (b + kB p.2 + 1)) := g
  have hr : Rdy q { s with V := [] } b (b + (kB p.2 + 1 + kT l)) := hr
  have h6 : b + (kB p.2 + 1 + kT l) ≤ 1000000 := h6
  have hF1 : fs[pre.length]? = some p.1 := by rw [he]; simp
  have hpl : pre.length < fs.length := (List.getElem?_eq_some_iff.1 hF1).1
  have hpk : pre.length < q.k := by omega
  have hz0 := hz pre.length (Nat.le_refl _) hpk
  have hp6 : p.1.ps.length ≤ 1000 := hF.ps p.1 (List.mem_of_getElem? hF1)
  have hps := ps_I (q := q) p.1.body pre.length hpk p.1.ps { s with fn := (pre.length : Int), V := [] } rfl hz0 (by show 0 + p.1.ps.length ≤ 900; omega)
  have hps : PsI q p.1.body pre.length p.1.ps { s with fn := (pre.length : Int), V := [] } (rsP { s with fn := (pre.length : Int), V := [] } pre.length (ckPs p.1.body p.1.ps [])) := hps
  unfold ckT
  cases hc : ckPs p.1.body p.1.ps [] with
  | error z =>
   rw [hc] at hps
   exact ⟨.error (z.1, (z.2 : Int)), .bad _ _ _ _ (fun w R h => pfunctionC pre.length p.1 hF1 hp6 _ _ hps (.inl ⟨_, rfl, rfl⟩) w R h), rfl⟩
  | ok V =>
   rw [hc] at hps
   have hVl : V.length = p.1.ps.length := by rw [ckPs_ok _ _ _ _ hc]; show 0 + _ = _; omega
   obtain ⟨s1, hs1⟩ : ∃ s1 : CkS, s1 = { s with fn := (pre.length : Int), V := V, sz := s.sz.set pre.length (V.length : Int) } := ⟨_, rfl⟩
   have hps : PsI q p.1.body pre.length p.1.ps { s with fn := (pre.length : Int), V := [] } (.ok s1) := by rw [hs1]; exact hps
   have hzl : pre.length < s.sz.length := (List.getElem?_eq_some_iff.1 hz0).1
   have hz1 : s1.sz[pre.length]? = some (V.length : Int) := by
    rw [hs1]
    show (s.sz.set pre.length (V.length : Int))[pre.length]? = _
    rw [List.getElem?_set, if_pos rfl, if_pos hzl]
   have hr1 : Rdy q s1 b (b + (kB p.2 + 1 + kT l)) := by
    rw [hs1]
    exact ⟨hr.lT, hr.lS, hr.lF, by show (s.sz.set _ _).length = _; rw [List.length_set]; exact hr.lZ, hr.em, hr.ty0, hr.sl1, by show V.length ≤ 1000; omega⟩
   have e1 : s1.V = V := by rw [hs1]
   have e2 : s1.fn = (pre.length : Int) := by rw [hs1]
   have hk := blk_K (nd := nd) (fs := fs) (w0 := w0) (a := p.2) (b := b) (f := pre.length) (n := V.length) (F := p.1) (hr1.part (Nat.le_refl _) (by omega)) g.left (by omega) hz1 (by rw [e1]; exact Nat.le_refl _) (by omega) (fun s' hr' hf' hV' hz' => by
    have := seq_B (q := q) (nd := nd) (w0 := w0) hF pre.length p.1 hF1 hpk p.2 b 0 s' V.length (by rw [hf', e2]) (by rw [hz']; exact hz1) hb2 g.left.left hr' (by rw [hV', e1]; exact Nat.le_refl _) (by omega) (by omega)
    rw [hf', hV'] at this
    exact this)
   rw [e1, e2] at hk
   show ∃ r, _ ∧ rsT s pre.length b ((ckB fs (pre.length : Int) p.1.ret p.2 V V.length b).bind fun q => (ckT fs l (pre.length + 1) (b + kB p.2 + 1)).bind fun r => .ok (q.n :: r.1, q.l ++ [⟨0, -1, (pre.length : Int)⟩] ++ r.2)) r
   cases hc2 : ckB fs (pre.length : Int) p.1.ret p.2 V V.length b with
   | error z =>
    rw [hc2] at hk
    exact ⟨.error (z.1, (z.2 : Int)), .bad _ _ _ _ (fun w R h => pfunctionC pre.length p.1 hF1 hp6 _ _ hps (.inr ⟨s1, rfl, by rw [hb1]; exact hk⟩) w R h), rfl⟩
   | ok u =>
    rw [hc2] at hk
    have hk : BlkC q nd fs w0 ((b + kB p.2 : Nat) : Int) s1 (.ok (updB s1 b pre.length ⟨V, u.n, u.l ++ [⟨0, -1, (pre.length : Int)⟩]⟩)) := hk
    have g2 := ckB_ok p.2 _ _ _ u hc2
    have hl2 : (u.l ++ [(⟨0, -1, (pre.length : Int)⟩ : Tri)]).length = kB p.2 + 1 := by rw [List.length_append, g2.l]; rfl
    obtain ⟨s2, hs2⟩ : ∃ s2, s2 = updB s1 b pre.length ⟨V, u.n, u.l ++ [⟨0, -1, (pre.length : Int)⟩]⟩ := ⟨_, rfl⟩
    have hr2 : Rdy q s2 (b + kB p.2 + 1) (b + (kB p.2 + 1 + kT l)) := by
     rw [hs2]
     exact hr1.updB _ (by show _ = b + (u.l ++ [_]).length; rw [hl2]; omega) (by omega) (by show V.length ≤ 1000; omega)
    have hr3 : Rdy q { s2 with V := [] } (b + kB p.2 + 1) (b + kB p.2 + 1 + kT l) := ⟨hr2.lT, hr2.lS, hr2.lF, hr2.lZ, by have := hr2.em; omega, fun j a c => hr2.ty0 j a (by omega), fun j a c => hr2.sl1 j a (by omega), Nat.zero_le _⟩
    have esz : s2.sz = s.sz.set pre.length (u.n : Int) := by
     rw [hs2, hs1]
     show (s.sz.set pre.length (V.length : Int)).set pre.length (u.n : Int) = _
     rw [List.set_set]
    obtain ⟨r, hi, ht⟩ := fn_T hF hqk l (pre ++ [p.1]) (b + kB p.2 + 1) s2 (by rw [he]; simp) hb4 (g.right (by rw [flK_len]; omega)) hr3 (fun j h1 h2 => by
     rw [List.length_append] at h1
     have h1 : pre.length + 1 ≤ j := h1
     rw [esz, get_set_ne _ _ _ _ (by omega)]
     exact hz j (by omega) h2) (by omega)
    rw [List.length_append] at hi ht
    have hi : FunI q nd fs w0 (pre.length + 1) l.length s2 r := hi
    have ht : rsT s2 (pre.length + 1) (b + kB p.2 + 1) (ckT fs l (pre.length + 1) (b + kB p.2 + 1)) r := ht
    rw [← hs2] at hk
    refine ⟨r, .ok _ _ _ s2 _ (fun w R h => pfunctionC pre.length p.1 hF1 hp6 _ _ hps (.inr ⟨s1, rfl, by rw [hb1]; exact hk⟩) w R h) hi, ?_⟩
    show rsT s pre.length b ((ckT fs l (pre.length + 1) (b + kB p.2 + 1)).bind fun r => .ok (u.n :: r.1, u.l ++ [⟨0, -1, (pre.length : Int)⟩] ++ r.2)) r
    cases hc3 : ckT fs l (pre.length + 1) (b + kB p.2 + 1) with
    | error z =>
     rw [hc3] at ht
     cases r with
     | ok s3 => exact ht.elim
     | error y => exact ht
    | ok x =>
     rw [hc3] at ht
     cases r with
     | error y => exact ht.elim
     | ok s3 =>
      obtain ⟨t1, t2, t3, t4⟩ := ht
      obtain ⟨k1, k2⟩ := ckT_len l _ _ x hc3
      have hm := hr.em
      have lT := hr.lT
      have lS := hr.lS
      have lF := hr.lF
      have lZ := hr.lZ
      have a1 : s2.ty = ovr s.ty b ((u.l ++ [(⟨0, -1, (pre.length : Int)⟩ : Tri)]).map Tri.t) := by rw [hs2, hs1]; rfl
      have a2 : s2.sl = ovr s.sl b ((u.l ++ [(⟨0, -1, (pre.length : Int)⟩ : Tri)]).map Tri.s) := by rw [hs2, hs1]; rfl
      have a3 : s2.ff = ovr s.ff b ((u.l ++ [(⟨0, -1, (pre.length : Int)⟩ : Tri)]).map Tri.f) := by rw [hs2, hs1]; rfl
      have b1 := ovr_ovr s.ty b ((u.l ++ [(⟨0, -1, (pre.length : Int)⟩ : Tri)]).map Tri.t) (x.2.map Tri.t) (by rw [List.length_map, List.length_map, hl2, k2, show s.ty.length = q.m from lT]; omega)
      have b2 := ovr_ovr s.sl b ((u.l ++ [(⟨0, -1, (pre.length : Int)⟩ : Tri)]).map Tri.s) (x.2.map Tri.s) (by rw [List.length_map, List.length_map, hl2, k2, show s.sl.length = q.m from lS]; omega)
      have b3 := ovr_ovr s.ff b ((u.l ++ [(⟨0, -1, (pre.length : Int)⟩ : Tri)]).map Tri.f) (x.2.map Tri.f) (by rw [List.length_map, List.length_map, hl2, k2, show s.ff.length = q.m from lF]; omega)
      rw [List.length_map, hl2, show b + (kB p.2 + 1) = b + kB p.2 + 1 by omega, ← List.map_append] at b1 b2 b3
      refine ⟨by rw [t1, a1]; exact b1, by rw [t2, a2]; exact b2, by rw [t3, a3]; exact b3, ?_⟩
      have hfl : fs.length = pre.length + (l.length + 1) := by rw [he, List.length_append, List.length_map]; rfl
      have hsz : s.sz.length = pre.length + (l.length + 1) := by rw [show s.sz.length = q.k from lZ, hqk, hfl]
      have e5 : s.sz.set pre.length (u.n : Int) = ovr s.sz pre.length [(u.n : Int)] := by
       have := ovr_set s.sz pre.length pre.length [] (u.n : Int) rfl (by omega)
       rw [ovr_nil] at this
       exact this
      rw [t4, esz, e5]
      have := ovr_ovr s.sz pre.length [(u.n : Int)] (x.1.map (fun n : Nat => (n : Int))) (by rw [List.length_map, k1]; show pre.length + 1 + l.length ≤ _; omega)
      exact this
end
end Go.Proofs.YtbhpnioggpgbhaaGreatDoor

namespace Go.Proofs.YtbhpnioggpgbhaaGreatDoor
open Go Go.RowKit
set_option linter.unusedVariables false
set_option linter.unusedSimpArgs false
def okA (md : Region.Mode) (ops : Array Oper) (deps : Nat → List Nat) (fin : Array Bool) : Nat → Array Bool → List Nat → Bool
 | 0, l, rem => rem == [] && l == fin
 | n + 1, l, rem => (Region.ready md ops l != []) && (Region.ready md ops l).all fun i => rem.contains i && (deps i).all (fun j => !rem.contains j) && okA md ops deps fin n (l.setIfInBounds i true) (rem.erase i)
def putA (is : List Nat) (d : Nat → Tmp) (v : Nat → Value) (a : Act) : Act := is.foldl (fun b i => b.put (some (d i)) (v i)) a
theorem put_size (a : Act) (k : Tmp) (v : Value) : (a.put (some k) v).tmps.size = a.tmps.size := by simp [Act.put]
theorem put_at (a : Act) (k j : Tmp) (v : Value) : (a.put (some k) v).tmps[j]? = if k = j ∧ k < a.tmps.size then some v else a.tmps[j]? := by
 simp only [Act.put]
 rw [Array.getElem?_setIfInBounds]
 by_cases h : k = j
 ·subst h
  by_cases h2 : k < a.tmps.size
  ·rw [if_pos rfl, if_pos h2, if_pos ⟨rfl, h2⟩]
  ·rw [if_pos rfl, if_neg h2, if_neg (fun h => h2 h.2)]
   exact (Array.getElem?_eq_none (Nat.le_of_not_lt h2)).symm
 ·rw [if_neg h, if_neg (fun h2 => h h2.1)]
theorem putA_eq (d : Nat → Tmp) (b' : Act) : ∀ (is : List Nat) (b : Act), b.tmps.size = b'.tmps.size → b.defers = b'.defers → (∀ i ∈ is, d i < b.tmps.size) → (∀ k, (∀ i ∈ is, k ≠ d i) → b.tmps[k]? = b'.tmps[k]?) → putA is d (fun i => b'.tmps.getD (d i) undef) b = b'
 | [], b, hs, hd, hb, h => by
  show b = b'
  have : b.tmps = b'.tmps := Array.ext_getElem? (fun k => h k (fun i hi => by cases hi))
  cases b; cases b'
  simp only at this hd
  rw [this, hd]
 | i :: is, b, hs, hd, hb, h => by
  refine putA_eq d b' is (b.put (some (d i)) (b'.tmps.getD (d i) undef)) (by rw [put_size]; exact hs) (by simpa [Act.put] using hd) (fun j hj => by rw [put_size]; exact hb j (List.mem_cons_of_mem _ hj)) (fun k hk => ?_)
  rw [put_at]
  by_cases e : d i = k
  ·subst e
   have hlt := hb i (List.mem_cons_self ..)
   rw [if_pos ⟨rfl, hlt⟩, Array.getD_eq_getD_getElem?]
   have : d i < b'.tmps.size := hs ▸ hlt
   rw [Array.getElem?_eq_getElem this]
   rfl
  ·rw [if_neg (fun h => e h.1)]
   exact h k (fun j hj => by
    rcases List.mem_cons.1 hj with rfl | hj
    ·exact fun h => e h.symm
    ·exact hk j hj)
section
variable {P : Program} {ops : Array Oper} {Q : Exit → Act → World → Prop} {md : Region.Mode} {S : World → Prop}
theorem wpAnyH_makes (a : Act) (w : World) (is : List Nat) (d : Nat → Tmp) (deps : Nat → List Nat) (V : Nat → (Nat → Value) → World → Prop) (D : Nat → Nat → Value → Value → Prop)
  (hV : ∀ i f w1 w2, Keeps (fun _ => False) w1 w2 → V i f w1 → V i f w2) (hVd : ∀ i f g w, (∀ j, j = i ∨ j ∈ deps i → f j = g j) → V i f w → V i g w) (hS : ∀ w', Keeps (fun _ => False) w w' → S w') (hd : ∀ i ∈ is, d i < a.tmps.size)
  (hop : ∀ i ∈ is, (∀ j ∈ deps i, j ∈ is ∧ j ≠ i) ∧ ∃ o, ops[i]? = some o ∧ o.guard = none ∧ o.dst = some (d i) ∧ ∀ (ev : Operand → Value) (f : Nat → Value), (∀ x, (∀ t, x = .tmp t → t ∉ is.map d) → ev x = a.eval x) → (∀ j ∈ is, ev (.tmp (d j)) = f j) → ∀ w', (∀ j ∈ deps i, V j f w') → Keeps (fun _ => False) w w' → ∃ v w'', (execOp ev o).run P w' = .ok (.value v) w'' ∧ Keeps (fun _ => False) w' w'' ∧ V i (fun j => if j = i then v else f j) w'' ∧ ∀ j ∈ is, j ≠ i → V j f w' → D j i (f j) v ∧ D i j v (f j))
  (fin : Array Bool) (fuel : Nat) (hcont : ∀ (v : Nat → Value) w', Keeps (fun _ => False) w w' → (∀ i ∈ is, V i v w') → (∀ i ∈ is, ∀ j ∈ is, i ≠ j → D i j (v i) (v j)) → wpAnyH P md ops Q S fuel fin (putA is d v a) w') (hdd : ∀ i ∈ is, ∀ j ∈ is, i ≠ j → d i ≠ d j) :
  ∀ (n : Nat) (listed : Array Bool) (rem : List Nat) (a' : Act) (w' : World), okA md ops deps fin n listed rem = true → (∀ i ∈ rem, i ∈ is) → a'.tmps.size = a.tmps.size → a'.defers = a.defers → (∀ k, k ∉ is.map d → a'.tmps[k]? = a.tmps[k]?) → (∀ i ∈ is, i ∉ rem → V i (fun j => a'.tmps.getD (d j) undef) w') → (∀ i ∈ is, ∀ j ∈ is, i ≠ j → i ∉ rem → j ∉ rem → D i j (a'.tmps.getD (d i) undef) (a'.tmps.getD (d j) undef)) → (∀ i ∈ is, i ∉ rem → ∀ j ∈ deps i, j ∉ rem) → rem.Nodup → Keeps (fun _ => False) w w' → wpAnyH P md ops Q S (fuel + n) listed a' w'
 | 0, listed, rem, a', w', hok, hsub, hsz, hdf, hag, hv, hD, hcl, hnd, hk => by
  unfold okA at hok
  rw [Bool.and_eq_true] at hok
  have hr : rem = [] := by simpa using hok.1
  have hf : listed = fin := by simpa using hok.2
  subst hr
  subst hf
  have := hcont (fun i => a'.tmps.getD (d i) undef) w' hk (fun i hi => hv i hi (by simp)) (fun i hi j hj h => hD i hi j hj h (by simp) (by simp))
  rw [putA_eq d a' is a hsz.symm hdf.symm hd (fun k hk => (hag k (fun h => by
   obtain ⟨i, hi, e⟩ := List.mem_map.1 h
   exact hk i hi e.symm)).symm)] at this
  exact this
 | n + 1, listed, rem, a', w', hok, hsub, hsz, hdf, hag, hv, hD, hcl, hnd, hk => by
  unfold okA at hok
  rw [Bool.and_eq_true] at hok
  obtain ⟨h1, h3⟩ := hok
  have hne : Region.ready md ops listed ≠ [] := by simpa using h1
  refine wpAnyH_all rfl hne (fun i hi => ?_)
  have h4 := List.all_eq_true.1 h3 i hi
  rw [Bool.and_eq_true, Bool.and_eq_true] at h4
  obtain ⟨⟨h5, h6⟩, h4⟩ := h4
  have hir : i ∈ rem := by simpa using h5
  have hdr : ∀ j ∈ deps i, j ∉ rem := fun j hj => by simpa using List.all_eq_true.1 h6 j hj
  obtain ⟨hdi, o, ho, hg, hds, hrun⟩ := hop i (hsub i hir)
  refine wpOp_step ho (fun K' hK => ?_)
  have hw : Region.wanted o (yielded ops a'.tmps) = true := by unfold Region.wanted; rw [hg]
  rw [if_pos hw]
  obtain ⟨v, w'', e1, e2, e3, e4⟩ := hrun a'.eval (fun j => a'.tmps.getD (d j) undef) (fun x hx => by
   cases x with
   | const v => rfl
   | tmp t =>
    show a'.tmps.getD t undef = a.tmps.getD t undef
    rw [Array.getD_eq_getD_getElem?, Array.getD_eq_getD_getElem?, hag t (hx t rfl)]
   | _ => rfl) (fun j hj => rfl) w' (fun j hj => hv j (hdi j hj).1 (hdr j hj)) hk
  unfold Oper.wp
  rw [e1]
  show K' (a'.put o.dst v) w''
  rw [hds]
  have k2 := hk.trans e2 (fun _ _ h => h)
  refine hK _ _ ⟨hS _ k2, ?_⟩
  have hself : (a'.put (some (d i)) v).tmps.getD (d i) undef = v := by rw [Array.getD_eq_getD_getElem?, put_at, if_pos ⟨rfl, by rw [hsz]; exact hd i (hsub i hir)⟩]; rfl
  have hoth : ∀ j ∈ is, i ≠ j → (a'.put (some (d i)) v).tmps.getD (d j) undef = a'.tmps.getD (d j) undef := fun j hj e => by rw [Array.getD_eq_getD_getElem?, put_at, if_neg (fun h => hdd i (hsub i hir) j hj e h.1), ← Array.getD_eq_getD_getElem?]
  have hner : ∀ j, i ≠ j → j ∉ rem.erase i → j ∉ rem := fun j e hjr h => hjr ((List.mem_erase_of_ne (fun h => e h.symm)).2 h)
  refine wpAnyH_makes a w is d deps V D hV hVd hS hd hop fin fuel hcont hdd n _ (rem.erase i) _ w'' h4 (fun j hj => hsub j (List.mem_of_mem_erase hj)) (by rw [put_size]; exact hsz) (by simpa [Act.put] using hdf) (fun k hk => ?_) (fun j hj hjr => ?_) (fun x hx j hj hne hxr hjr => ?_) (fun j hj hjr x hx => ?_) (hnd.erase _) k2
  ·rw [put_at, if_neg (fun h => hk (by rw [← h.1]; exact List.mem_map_of_mem (hsub i hir)))]
   exact hag k hk
  ·by_cases e : i = j
   ·subst e
    refine hVd i _ _ _ (fun x hx => ?_) e3
    by_cases ex : x = i
    ·subst ex
     rw [if_pos rfl, hself]
    ·rw [if_neg ex]
     have hxd : x ∈ deps i := hx.elim (fun h => absurd h ex) id
     exact (hoth x (hdi x hxd).1 (fun h => ex h.symm)).symm
   ·have hjn := hner j e hjr
    refine hVd j _ _ _ (fun x hx => ?_) (hV j _ w' w'' e2 (hv j hj hjn))
    have hxn : x ∈ is ∧ x ≠ i := by
     rcases hx with rfl | hx
     ·exact ⟨hj, fun h => e h.symm⟩
     ·exact ⟨((hop j hj).1 x hx).1, fun h => hcl j hj hjn x hx (by rw [h]; exact hir)⟩
    exact (hoth x hxn.1 (fun h => hxn.2 h.symm)).symm
  ·by_cases e : i = j
   ·subst e
    rw [hself, hoth x hx (fun h => hne h.symm)]
    exact (e4 x hx hne (hv x hx (hner x (fun h => hne h.symm) hxr))).1
   ·by_cases e2 : i = x
    ·subst e2
     rw [hself, hoth j hj e]
     exact (e4 j hj (fun h => e h.symm) (hv j hj (hner j e hjr))).2
    ·rw [hoth j hj e, hoth x hx e2]
     exact hD x hx j hj hne (hner x e2 hxr) (hner j e hjr)
  ·by_cases e : i = j
   ·subst e
    exact fun h => hdr x hx (List.mem_of_mem_erase h)
   ·exact fun h => hcl j hj (hner j e hjr) x hx (List.mem_of_mem_erase h)
end
end Go.Proofs.YtbhpnioggpgbhaaGreatDoor

namespace Go.Proofs.YtbhpnioggpgbhaaGreatDoor
set_option linter.unusedVariables false
set_option linter.unusedSimpArgs false
theorem idx_at (pre l : List Fnc) (f : Fnc) : ((lookF pre f.s).isSome = true → idxF (pre ++ f :: l) f.s < pre.length) ∧ ((lookF pre f.s).isSome = false → idxF (pre ++ f :: l) f.s = pre.length) := by
 have h := @idx_look pre f.s
 unfold idxF at h ⊢
 rw [List.findIdx?_append]
 refine ⟨fun hs => ?_, fun hs => ?_⟩
 ·obtain ⟨g, hg⟩ := Option.isSome_iff_exists.1 hs
  obtain ⟨i, e, hi⟩ := h.2 g hg
  have hil := (List.getElem?_eq_some_iff.1 hi).1
  cases hq : pre.findIdx? (fun g => decide (g.s = f.s)) with
  | none => rw [hq] at e; exact absurd (show (-1 : Int) = i from e) (by omega)
  | some k =>
   rw [hq] at e
   have e : (k : Int) = i := e
   show (k : Int) < pre.length
   omega
 ·have hn : lookF pre f.s = none := by
   cases hh : lookF pre f.s with
   | none => rfl
   | some g => rw [hh] at hs; exact absurd hs (by simp)
  have e := h.1 hn
  cases hq : pre.findIdx? (fun g => decide (g.s = f.s)) with
  | some k => rw [hq] at e; exact absurd (show (k : Int) = -1 from e) (by omega)
  | none =>
   rw [List.findIdx?_cons]
   simp
theorem dup_go : ∀ (l pre fs : List Fnc), fs = pre ++ l → (∀ (j : Nat) (G : Fnc), j < pre.length → fs[j]? = some G → ¬ idxF fs G.s < j) →
  (∀ f, dupF pre l = some f → ∃ i : Nat, fs[i]? = some f ∧ idxF fs f.s < i ∧ ∀ (j : Nat) (G : Fnc), j < i → fs[j]? = some G → ¬ idxF fs G.s < j) ∧ (dupF pre l = none → ∀ (j : Nat) (G : Fnc), fs[j]? = some G → ¬ idxF fs G.s < j)
 | [], pre, fs, e, h => ⟨fun f hf => by simp [dupF] at hf, fun _ j G hG => h j G (by have := (List.getElem?_eq_some_iff.1 hG).1; rw [e, List.append_nil] at this; exact this) hG⟩
 | f :: l, pre, fs, e, h => by
  have hf : fs[pre.length]? = some f := by rw [e]; simp
  have hi := idx_at pre l f
  rw [← e] at hi
  unfold dupF
  by_cases hs : (lookF pre f.s).isSome = true
  ·rw [if_pos hs]
   refine ⟨fun g hg => ?_, fun hg => by cases hg⟩
   rw [← Option.some.inj hg]
   exact ⟨pre.length, hf, hi.1 hs, h⟩
  ·rw [if_neg hs]
   refine dup_go l (pre ++ [f]) fs (by rw [e, List.append_assoc]; rfl) (fun j G hj hG => ?_)
   rw [List.length_append] at hj
   have hj : j < pre.length + 1 := hj
   by_cases ej : j = pre.length
   ·subst ej
    rw [hf] at hG
    rw [← Option.some.inj hG, hi.2 (by simpa using hs)]
    omega
   ·exact h j G (by omega) hG
/-- What heads tells. -/
theorem hdZ_all (fs : List Fnc) : (∀ f, dupF [] fs = some f → HdZ fs (f.body, 41)) ∧ (dupF [] fs = none → HdZ fs (mainZ fs)) := by
 obtain ⟨h1, h2⟩ := dup_go fs [] fs rfl (fun j G h => absurd h (Nat.not_lt_zero _))
 refine ⟨fun f hf => ?_, fun hf => .inr ⟨h2 hf, rfl⟩⟩
 obtain ⟨i, g1, g2, g3⟩ := h1 f hf
 exact .inl ⟨i, f, g1, g2, g3, rfl⟩
theorem main_ok (fs : List Fnc) : mainZ fs = if mainOK fs then (0, 0) else (0, 44) := by
 unfold mainZ mainOK
 cases lookF fs [109, 97, 105, 110] with
 | none => rfl
 | some f =>
  by_cases h1 : f.ps = []
  ·by_cases h2 : f.ret = 0
   ·simp [h1, h2]
   ·simp [h1, h2]
  ·have : f.ps.length ≠ 0 := fun h => h1 (List.length_eq_zero_iff.1 h)
   simp [h1]
end Go.Proofs.YtbhpnioggpgbhaaGreatDoor
