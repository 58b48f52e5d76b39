/-
 Layer 4: the program's checker on expressions, what is handed to a call, right sides. Written by an AI agent.
-/
import Derived.Test.YtbhpnioggpgbhaaGreatDoorMcbe
namespace Go.Proofs.YtbhpnioggpgbhaaGreatDoor
open Go Go.RowKit Go.Shelf
set_option linter.unusedVariables false
set_option linter.unusedSimpArgs false
section
variable {q : CkQ} {nd : List Nd} {fs : List Fnc} {w0 : World}
theorem nd_E : ∀ (e : Ex) (b : Nat) (s : CkS), SgE e → FlAt nd b (flE e b) → Rdy q s b (b + kE e + 1) → NdC q nd fs w0 ((b + kE e : Nat) : Int) s (rsE s b (ckE s.fn s.V e b)) := by
 intro e
 induction e with
 | int n => intro b s hg g hr; exact nd_leaf (k := 1) (n := n) (x := []) hr g.at (by decide) (by decide) (by decide) (by decide) (by decide) (by decide) (by decide) (by decide) (by decide) 1 (fun s2 h => tl_k1 n [] [] s2 h)
 | bool t => intro b s hg g hr; exact nd_leaf (k := 2) (x := []) hr g.at (by decide) (by decide) (by decide) (by decide) (by decide) (by decide) (by decide) (by decide) (by decide) 2 (fun s2 h => tl_k2 _ [] [] s2 h)
 | text x => intro b s hg g hr; exact nd_leaf (k := 3) (n := 0) (x := x) hr g.at (by decide) (by decide) (by decide) (by decide) (by decide) (by decide) (by decide) (by decide) (by decide) 3 (fun s2 h => tl_k3 0 x [] s2 h)
 | var x =>
  intro b s hg g hr
  have hat : At nd (b : Int) 4 0 x [] := g.at
  have hm : b < q.m := by have := hr.em; simp only [kE] at this; omega
  unfold ckE
  cases hv : lookV s.V x with
  | none => exact nd_nm (z1 := 40) hm hat (by simp) (by decide) (nm_none b hm 4 0 x [] _ (.inl rfl) (by exact hr.V) hv)
  | some v =>
   have h := nd_tl (q := q) (nd := nd) (fs := fs) (w0 := w0) (s := s) hm hat (by simp) (by decide) (by decide) (by decide) (nm_some b hm 4 0 x [] { s with ff := s.ff.set b s.fn } (.inl rfl) (by exact hr.V) v hv) (.nil 0 _) (tl_var 0 x [] _ (by exact hr.V) v hv)
   rw [if_pos rfl] at h
   have e := fin_v hr [] (by simp [kE]) v.t v.s
   rw [upd_nil, List.nil_append] at e
   show NdC q nd fs w0 ((b + 0 : Nat) : Int) s (.ok (upd s b [⟨v.t, v.s, s.fn⟩]))
   rw [← e]
   exact h
 | index x a ih =>
  intro b s hg g hr
  have hat : At nd ((b + kE a + 1 : Nat) : Int) 5 0 x [((b + kE a : Nat) : Int)] := (g.right (c := b + kE a + 1) (by rw [flE_len]; omega)).at
  have hr : Rdy q s b (b + kE a + 1 + 1) := hr
  have hm : b + kE a + 1 < q.m := by have := hr.em; omega
  show NdC q nd fs w0 ((b + kE a + 1 : Nat) : Int) s _
  unfold ckE
  cases hv : lookV s.V x with
  | none => exact nd_nm (z1 := 40) hm hat (by simp) (by decide) (nm_none _ hm 5 0 x _ _ (.inr (.inl rfl)) (by exact hr.V) hv)
  | some v =>
   refine nd_one (v := v.s) (t := 1) (c := fun u => v.t = 4 ∧ u = 1) rfl hr hat (by decide) (by decide) (by decide) rfl (nm_some _ hm 5 0 x _ { s with ff := s.ff.set (b + kE a + 1) s.fn } (.inr (.inl rfl)) (by exact hr.V) v hv) (ih b _ hg g.left (hr.markV v.s)) (fun r hc => ?_)
   exact tl_index 0 x _ _ (by exact hr.V) v (by exact hv) (b + kE a) rfl (by omega) r.1 (ck_tyE hc (hr.markV v.s) (Nat.le_refl _))
 | len a ih =>
  intro b s hg g hr
  have hat : At nd ((b + kE a + 1 : Nat) : Int) 6 0 [] [((b + kE a : Nat) : Int)] := (g.right (c := b + kE a + 1) (by rw [flE_len]; omega)).at
  have hr : Rdy q s b (b + kE a + 1 + 1) := hr
  have hm : b + kE a + 1 < q.m := by have := hr.em; omega
  refine nd_one (v := -1) (t := 1) (c := fun u => u = 3 ∨ u = 4) rfl hr hat (by decide) (by decide) (by decide) rfl (by rw [mark_same hr (by omega)]; exact nm_rest _ 6 0 [] _ _ (by decide) (by decide) (by decide) (by decide) (by decide) (by decide)) (ih b _ hg g.left (hr.markV (-1))) (fun r hc => ?_)
  exact tl_len 0 [] _ _ (by exact hr.V) (b + kE a) rfl (by omega) r.1 (ck_tyE hc (hr.markV (-1)) (Nat.le_refl _))
 | neg a ih =>
  intro b s hg g hr
  have hat : At nd ((b + kE a + 1 : Nat) : Int) 7 0 [] [((b + kE a : Nat) : Int)] := (g.right (c := b + kE a + 1) (by rw [flE_len]; omega)).at
  have hr : Rdy q s b (b + kE a + 1 + 1) := hr
  have hm : b + kE a + 1 < q.m := by have := hr.em; omega
  refine nd_one (v := -1) (t := 1) (c := fun u => u = 1) rfl hr hat (by decide) (by decide) (by decide) rfl (by rw [mark_same hr (by omega)]; exact nm_rest _ 7 0 [] _ _ (by decide) (by decide) (by decide) (by decide) (by decide) (by decide)) (ih b _ hg g.left (hr.markV (-1))) (fun r hc => ?_)
  exact tl_neg 0 [] _ _ (by exact hr.V) (b + kE a) rfl (by omega) r.1 (ck_tyE hc (hr.markV (-1)) (Nat.le_refl _))
 | not a ih =>
  intro b s hg g hr
  have hat : At nd ((b + kE a + 1 : Nat) : Int) 8 0 [] [((b + kE a : Nat) : Int)] := (g.right (c := b + kE a + 1) (by rw [flE_len]; omega)).at
  have hr : Rdy q s b (b + kE a + 1 + 1) := hr
  have hm : b + kE a + 1 < q.m := by have := hr.em; omega
  refine nd_one (v := -1) (t := 2) (c := fun u => u = 2) rfl hr hat (by decide) (by decide) (by decide) rfl (by rw [mark_same hr (by omega)]; exact nm_rest _ 8 0 [] _ _ (by decide) (by decide) (by decide) (by decide) (by decide) (by decide)) (ih b _ hg g.left (hr.markV (-1))) (fun r hc => ?_)
  exact tl_not 0 [] _ _ (by exact hr.V) (b + kE a) rfl (by omega) r.1 (ck_tyE hc (hr.markV (-1)) (Nat.le_refl _))
 | bin x a c iha ihc =>
  intro b s hg g hr
  have e1 : b + kE (.bin x a c) = b + kE a + 1 + (kE c + 1) := by simp only [kE]; omega
  rw [e1] at hr ⊢
  have g : FlAt nd b (flE a b ++ flE c (b + kE a + 1) ++ [⟨9, 0, 0, x, [((b + kE a : Nat) : Int), ((b + kE a + 1 + kE c : Nat) : Int)]⟩]) := g
  have hat : At nd ((b + kE a + 1 + (kE c + 1) : Nat) : Int) 9 0 x [((b + kE a : Nat) : Int), ((b + kE a + 1 + kE c : Nat) : Int)] := (g.right (c := b + kE a + 1 + (kE c + 1)) (by rw [List.length_append, flE_len, flE_len]; omega)).at
  have hm : b + kE a + 1 + (kE c + 1) < q.m := by have := hr.em; omega
  have h := nd_two (q := q) (nd := nd) (fs := fs) (w0 := w0) (a := a) (c := c) (T := fun t0 t1 => if (signP x t0 t1).2 then (signP x t0 t1).1 else 0) (Z := fun t0 t1 => if (signP x t0 t1).2 then 0 else 42) rfl hr hat (by decide) (by decide) (by decide) (-1) rfl (by rw [mark_same hr (by omega)]; exact nm_rest _ 9 0 x _ _ (by decide) (by decide) (by decide) (by decide) (by decide) (by decide)) (fun s' h => iha b s' hg.2.1 g.left.left h) (fun s' h => ihc _ s' hg.2.2 (g.left.right (by rw [flE_len]; omega)) h) (fun s2 t0 t1 hV h0 h1 => tl_bin 0 x _ s2 (by rw [hV]; exact hr.V) (b + kE a) rfl (by omega) t0 h0 (b + kE a + 1 + kE c) rfl (by omega) t1 h1 hg.1)
  have e2 : rsE s b (ckE s.fn s.V (.bin x a c) b) = twoR s b (b + kE a + 1 + (kE c + 1)) a c (-1) (fun t0 t1 => if (signP x t0 t1).2 then (signP x t0 t1).1 else 0) (fun t0 t1 => if (signP x t0 t1).2 then 0 else 42) := by
   unfold twoR
   show rsE s b ((ckE s.fn s.V a b).bind fun r => (ckE s.fn s.V c (b + kE a + 1)).bind fun u => match signT x r.1 u.1 with
    | none => .error (((b + kE a + 1 + (kE c + 1) : Nat) : Int), 42)
    | some t => .ok (t, r.2 ++ u.2 ++ [⟨t, -1, s.fn⟩])) = _
   cases ckE s.fn s.V a b with
   | error z => rfl
   | ok r =>
    cases ckE s.fn s.V c (b + kE a + 1) with
    | error z => rfl
    | ok u =>
     show rsE s b (match signT x r.1 u.1 with
      | none => .error (((b + kE a + 1 + (kE c + 1) : Nat) : Int), 42)
      | some t => .ok (t, r.2 ++ u.2 ++ [⟨t, -1, s.fn⟩])) = if (if (signP x r.1 u.1).2 then (0 : Int) else 42) = 0 then .ok (upd s b (r.2 ++ u.2 ++ [⟨if (signP x r.1 u.1).2 then (signP x r.1 u.1).1 else 0, -1, s.fn⟩])) else .error (((b + kE a + 1 + (kE c + 1) : Nat) : Int), if (signP x r.1 u.1).2 then 0 else 42)
     rw [signP_T]
     cases (signP x r.1 u.1).2 with
     | true => rfl
     | false => rfl
  rw [e2]
  exact h
def rsEs (s : CkS) (b : Nat) : CR (List Int × List Tri) → RS
 | .ok r => .ok (upd s b r.2)
 | .error z => .error (z.1, (z.2 : Int))
theorem ckEs_len {fn : Int} {V : List Vb} : ∀ (l : List Ex) (b : Nat) (r : List Int × List Tri), ckEs fn V l b = .ok r → r.2.length = kEs l ∧ r.1.length = l.length
 | [], b, r, h => by cases h; exact ⟨rfl, rfl⟩
 | e :: l, b, r, h => by
  obtain ⟨p, h1, h2⟩ := bind_ok h
  obtain ⟨u, h3, h4⟩ := bind_ok h2
  obtain ⟨i1, i2⟩ := ckEs_len l _ u h3
  cases h4
  refine ⟨?_, by show u.1.length + 1 = l.length + 1; rw [i2]⟩
  show (p.2 ++ u.2).length = kE e + 1 + kEs l
  rw [List.length_append, ck_lenE h1, i1]
theorem rootEs_len : ∀ (l : List Ex) (b : Nat), (rootEs l b).length = l.length
 | [], _ => rfl
 | e :: l, b => by show (rootEs l _).length + 1 = l.length + 1; rw [rootEs_len l]
/-- The types of what is handed to a call, where they are kept. -/
theorem ckEs_at {fn : Int} {V : List Vb} : ∀ (l : List Ex) (b : Nat) (r : List Int × List Tri), ckEs fn V l b = .ok r → ∀ k, k < l.length → ∃ i : Nat, (rootEs l b)[k]? = some (i : Int) ∧ b ≤ i ∧ i < b + kEs l ∧ (r.2[i - b]?).map Tri.t = r.1[k]?
 | [], b, r, h, k, hk => by cases hk
 | e :: l, b, r, h, k, hk => by
  obtain ⟨p, h1, h2⟩ := bind_ok h
  obtain ⟨u, h3, h4⟩ := bind_ok h2
  cases h4
  have hl := ck_lenE h1
  cases k with
  | zero =>
   refine ⟨b + kE e, rfl, by omega, by show b + kE e < b + (kE e + 1 + kEs l); omega, ?_⟩
   obtain ⟨l', s', e1, e2⟩ := ck_form e b p h1
   show ((p.2 ++ u.2)[b + kE e - b]?).map Tri.t = some p.1
   rw [show b + kE e - b = kE e by omega, List.getElem?_append_left (by omega), e1, ← e2]
   simp
  | succ k =>
   obtain ⟨i, i1, i2, i3, i4⟩ := ckEs_at l (b + kE e + 1) u h3 k (by have hk : k + 1 < l.length + 1 := hk; omega)
   refine ⟨i, i1, by omega, by show i < b + (kE e + 1 + kEs l); omega, ?_⟩
   show ((p.2 ++ u.2)[i - b]?).map Tri.t = u.1[k]?
   rw [List.getElem?_append_right (by omega), hl, show i - b - (kE e + 1) = i - (b + kE e + 1) by omega]
   exact i4
theorem seq_Es : ∀ (l : List Ex) (b i : Nat) (s : CkS), (∀ e ∈ l, SgE e) → FlAt nd b (flEs l b) → Rdy q s b (b + kEs l) → SeqI (fun _ => true) (NdC q nd fs w0) i (rootEs l b) s (rsEs s b (ckEs s.fn s.V l b))
 | [], b, i, s, hg, g, hr => by
  show SeqI _ _ i [] s (.ok (upd s b []))
  rw [upd_nil]
  exact .nil i s
 | e :: l, b, i, s, hg, g, hr => by
  have hr : Rdy q s b (b + (kE e + 1 + kEs l)) := hr
  have g : FlAt nd b (flE e b ++ flEs l (b + kE e + 1)) := g
  have h1 := nd_E (q := q) (fs := fs) (w0 := w0) e b s (hg e (List.mem_cons_self ..)) g.left (hr.part (Nat.le_refl _) (by omega))
  show SeqI _ _ i (((b + kE e : Nat) : Int) :: rootEs l (b + kE e + 1)) s (rsEs s b ((ckE s.fn s.V e b).bind fun r => (ckEs s.fn s.V l (b + kE e + 1)).bind fun u => .ok (r.1 :: u.1, r.2 ++ u.2)))
  cases hc : ckE s.fn s.V e b with
  | error z => rw [hc] at h1; exact seq_err h1
  | ok r =>
   rw [hc] at h1
   have hl := ck_lenE hc
   have hr2 := hr.upd r.2 (c := b + kE e + 1) (by omega) (by omega)
   have h2 := seq_Es l (b + kE e + 1) (i + 1) (upd s b r.2) (fun x hx => hg x (List.mem_cons_of_mem _ hx)) (g.right (by rw [flE_len]; omega)) (hr2.part (Nat.le_refl _) (by omega))
   have e2 : ckEs (upd s b r.2).fn (upd s b r.2).V l (b + kE e + 1) = ckEs s.fn s.V l (b + kE e + 1) := rfl
   rw [e2] at h2
   cases hc2 : ckEs s.fn s.V l (b + kE e + 1) with
   | error z => rw [hc2] at h2; exact seq_ok h1 h2
   | ok u =>
    rw [hc2] at h2
    have hl2 := (ckEs_len l _ u hc2).1
    have eu := upd_upd hr r.2 u.2 (c := b + kE e + 1) (by omega) (by omega)
    show SeqI _ _ i _ s (.ok (upd s b (r.2 ++ u.2)))
    rw [← eu]
    exact seq_ok h1 h2
def SgR : Rt → Prop
 | .ex e => SgE e
 | .input => True
 | .new a => SgE a
 | .call _ l => ∀ e ∈ l, SgE e
/-- What a source's functions are bounded by. -/
structure FsOK (fs : List Fnc) : Prop where
 n : fs.length ≤ 1000
 ps : ∀ f ∈ fs, f.ps.length ≤ 1000
theorem nd_R (hF : FsOK fs) (r : Rt) (b : Nat) (s : CkS) (hg : SgR r) (g : FlAt nd b (flR r b)) (hr : Rdy q s b (b + kR r + 1)) (h6 : b + kR r + 1 ≤ 1000000) : NdC q nd fs w0 ((b + kR r : Nat) : Int) s (rsE s b (ckR fs s.fn s.V r b)) := by
 cases r with
 | ex e => exact nd_E e b s hg g hr
 | input => exact nd_leaf (k := 19) (n := 0) (x := []) hr g.at (by decide) (by decide) (by decide) (by decide) (by decide) (by decide) (by decide) (by decide) (by decide) 1 (fun s2 h => tl_k19 0 [] [] s2 h)
 | new a =>
  have hat : At nd ((b + kE a + 1 : Nat) : Int) 20 0 [] [((b + kE a : Nat) : Int)] := (g.right (c := b + kE a + 1) (by rw [flE_len]; omega)).at
  have hr : Rdy q s b (b + kE a + 1 + 1) := hr
  have hm : b + kE a + 1 < q.m := by have := hr.em; omega
  refine nd_one (v := -1) (t := 4) (c := fun u => u = 1) rfl hr hat (by decide) (by decide) (by decide) rfl (by rw [mark_same hr (by omega)]; exact nm_rest _ 20 0 [] _ _ (by decide) (by decide) (by decide) (by decide) (by decide) (by decide)) (nd_E a b _ hg g.left (hr.markV (-1))) (fun r hc => ?_)
  exact tl_new 0 [] _ _ (by exact hr.V) (b + kE a) rfl (by omega) r.1 (ck_tyE hc (hr.markV (-1)) (Nat.le_refl _))
 | call x l =>
  have hr : Rdy q s b (b + kEs l + 1) := hr
  have g : FlAt nd b (flEs l b ++ [⟨21, 0, 0, x, rootEs l b⟩]) := g
  have hat : At nd ((b + kEs l : Nat) : Int) 21 0 x (rootEs l b) := (g.right (c := b + kEs l) (by rw [flEs_len])).at
  have hm : b + kEs l < q.m := by have := hr.em; omega
  have hll : ∀ l : List Ex, l.length ≤ kEs l := by
   intro l
   induction l with
   | nil => exact Nat.le_refl _
   | cons e l ih => show l.length + 1 ≤ kE e + 1 + kEs l; omega
  have hl6 : (rootEs l b).length ≤ 1000000 := by rw [rootEs_len]; have := hll l; have h6 : b + kEs l + 1 ≤ 1000000 := h6; omega
  have hn := nm_fn (q := q) (nd := nd) (w0 := w0) (b + kEs l) 0 x (rootEs l b) { s with ff := s.ff.set (b + kEs l) s.fn } hF.n
  show NdC q nd fs w0 ((b + kEs l : Nat) : Int) s _
  simp only [ckR]
  cases hv : lookF fs x with
  | none =>
   rw [hv] at hn
   exact nd_nm (z1 := 40) hm hat hl6 (by decide) hn
  | some F =>
   rw [hv] at hn
   have hr1 := hr.mark
   have h1 := seq_Es (q := q) (nd := nd) (fs := fs) (w0 := w0) l b 0 _ hg g.left hr1
   have e1 : ckEs ({ s with ff := s.ff.set (b + kEs l) s.fn } : CkS).fn ({ s with ff := s.ff.set (b + kEs l) s.fn } : CkS).V l b = ckEs s.fn s.V l b := rfl
   rw [e1] at h1
   show NdC q nd fs w0 ((b + kEs l : Nat) : Int) s (rsE s b ((ckEs s.fn s.V l b).bind fun r =>
    if r.1.length ≠ F.ps.length then .error (((b + kEs l : Nat) : Int), 43)
    else if r.1 = F.ps.map Prod.snd then .ok (F.ret, r.2 ++ [⟨F.ret, -1, s.fn⟩]) else .error (((b + kEs l : Nat) : Int), 42)))
   cases hc : ckEs s.fn s.V l b with
   | error z => rw [hc] at h1; exact nd_err hm hat hl6 (by decide) (by decide) hn h1
   | ok r =>
    rw [hc] at h1
    obtain ⟨hl1, hl2⟩ := ckEs_len l b r hc
    have hT : ∀ z1 z2 : Int, (z1, z2) = (if (rootEs l b).length ≠ F.ps.length then ((0 : Int), (43 : Int)) else if r.1 = F.ps.map Prod.snd then (F.ret, 0) else (0, 42)) → NdC q nd fs w0 ((b + kEs l : Nat) : Int) s (if z2 = 0 then .ok { upd { s with ff := s.ff.set (b + kEs l) s.fn } b r.2 with ty := (upd { s with ff := s.ff.set (b + kEs l) s.fn } b r.2).ty.set (b + kEs l) z1 } else .error (((b + kEs l : Nat) : Int), z2)) := fun z1 z2 hz =>
     nd_tl hm hat hl6 (by decide) (by decide) (by decide) hn h1 (tl_call 0 x (rootEs l b) _ (by exact hr.V) hF.n F hv (hF.ps F (lookF_mem hv)) hl6 r.1 (by rw [hl2, rootEs_len]) (fun k hk => by
      rw [rootEs_len] at hk
      obtain ⟨i, i1, i2, i3, i4⟩ := ckEs_at l b r hc k hk
      refine ⟨i, i1, by omega, ?_⟩
      rw [upd_ty hr1 r.2 (by omega) i i2 (by omega)]
      exact i4) z1 z2 hz)
    show NdC q nd fs w0 ((b + kEs l : Nat) : Int) s (rsE s b (if r.1.length ≠ F.ps.length then .error (((b + kEs l : Nat) : Int), 43)
     else if r.1 = F.ps.map Prod.snd then .ok (F.ret, r.2 ++ [⟨F.ret, -1, s.fn⟩]) else .error (((b + kEs l : Nat) : Int), 42)))
    by_cases c1 : r.1.length ≠ F.ps.length
    ·rw [if_pos c1]
     have h := hT 0 43 (by rw [if_pos (by rw [rootEs_len, ← hl2]; exact c1)])
     rw [if_neg (by decide)] at h
     exact h
    ·rw [if_neg c1]
     by_cases c2 : r.1 = F.ps.map Prod.snd
     ·rw [if_pos c2]
      have h := hT F.ret 0 (by rw [if_neg (by rw [rootEs_len, ← hl2]; exact c1), if_pos c2])
      rw [if_pos rfl] at h
      show NdC q nd fs w0 _ s (.ok (upd s b (r.2 ++ [⟨F.ret, -1, s.fn⟩])))
      rw [← fin_n hr r.2 (by omega) F.ret]
      exact h
     ·rw [if_neg c2]
      have h := hT 0 42 (by rw [if_neg (by rw [rootEs_len, ← hl2]; exact c1), if_neg c2])
      rw [if_neg (by decide)] at h
      exact h
end
end Go.Proofs.YtbhpnioggpgbhaaGreatDoor
