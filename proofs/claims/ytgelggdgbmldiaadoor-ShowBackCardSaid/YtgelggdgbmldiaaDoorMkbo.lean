/-
  Layer 2: two trees of their own, with lines that become nought. Written by an AI agent.
  Layer 3: the document's example. Written by an AI agent.
  Layer 2: two sources, one behind the other: what a walk asks for. Written by an AI agent.
  Layer 3: a tree of its own, and the tree of its text (data). Written by an AI agent.
  Layer 3: ShowBack. Written by an AI agent.
  Layer 2: the start of a row. Written by an AI agent.
  Layer 3: the start of a row. Written by an AI agent.
-/
import Derived.Test.YtgelggdgbmldiaaDoorRows
import Derived.Stop.LaidErr
import Derived.LaidMore
import Derived.Stop.Joined
import Derived.ProofKit
import Derived.ChangeOld
import Derived.Test.YtgelggdgbmldiaaDoorMkbn
namespace Go.Proofs.YtgelggdgbmldiaaDoor
open Go Go.RowKit Go.Shelf
set_option linter.unusedVariables false
set_option linter.unusedSimpArgs false
/-- Two trees, and the variables that hold them. -/
structure BlkW (w0 : World) (P1 P2 m k : Nat) (A A' B B' : Option Addr) (c c' d d' : Nat) (L : List NM) (M : List FM) (L2 : List NM) (M2 : List FM) (lo1 lo2 : Nat) (i1 j1 i2 j2 : Nat) (w : World) : Prop where
  x : Loc w (fun _ => False) P1 [.slice A m c, .slice A' k c']
  y : Loc w (fun _ => False) P2 [.slice B m d, .slice B' k d']
  t : TreeW lo1 P1 w A A' L M i1 j1
  u : TreeW lo2 P2 w B B' L2 M2 i2 j2
  kp : Keeps (fun b => w0.heap.size ≤ b) w0 w
  o1 : w0.heap.size ≤ lo1
  o2 : P1 < lo2
  o3 : P1 < P2
  o4 : w0.heap.size ≤ P1
  l1 : L.length = m
  l2 : M.length = k
  l3 : L2.length = m
  l4 : M2.length = k
section
variable {w0 w w' : World} {P1 P2 m k : Nat} {A A' B B' : Option Addr} {c c' d d' : Nat} {L : List NM} {M : List FM} {L2 : List NM} {M2 : List FM} {lo1 lo2 : Nat} {i1 j1 i2 j2 : Nat}
theorem BlkW.keep (h : BlkW w0 P1 P2 m k A A' B B' c c' d d' L M L2 M2 lo1 lo2 i1 j1 i2 j2 w) (q : Keeps (fun _ => False) w w') : BlkW w0 P1 P2 m k A A' B B' c c' d d' L M L2 M2 lo1 lo2 i1 j1 i2 j2 w' :=
  { h with x := h.x.keeps q, y := h.y.keeps q, t := h.t.keep q, u := h.u.keep q, kp := h.kp.trans q (fun _ _ h => h.elim) }
theorem BlkW.step1 (h : BlkW w0 P1 P2 m k A A' B B' c c' d d' L M L2 M2 lo1 lo2 i1 j1 i2 j2 w) (hi : i1 < m) : ∃ b v, A = some ⟨b, 0, none⟩ ∧ w.cell? ⟨b, i1 * 5 + 1, none⟩ = some v ∧ w.frozen? ⟨b, i1 * 5 + 1, none⟩ = false ∧ BlkW w0 P1 P2 m k A A' B B' c c' d d' L M L2 M2 lo1 lo2 (i1 + 1) j1 i2 j2 (w.setCell ⟨b, i1 * 5 + 1, none⟩ (.int .i64 0)) := by
  obtain ⟨b, v, e, h1, h2, h3, h4, h5⟩ := h.t.setN (by rw [h.l1]; exact hi)
  have q : Keeps (fun x => x = b) w (w.setCell ⟨b, i1 * 5 + 1, none⟩ (.int .i64 0)) := (Keeps.refl (fun x => x = b) w).setCell (p := ⟨b, i1 * 5 + 1, none⟩) (fun _ => rfl) _
  have o1 := h.o1
  have o2 := h.o2
  have o3 := h.o3
  have o4 := h.o4
  exact ⟨b, v, e, h3, h4, { h with x := h.x.keepsR q (fun e => by omega), y := h.y.keepsR q (fun e => by omega), t := h5, u := h.u.keepS q (fun b' g1 g2 e => by omega), kp := h.kp.trans q (fun x _ e => by have e : x = b := e; show w0.heap.size ≤ x; omega) }⟩
theorem BlkW.step2 (h : BlkW w0 P1 P2 m k A A' B B' c c' d d' L M L2 M2 lo1 lo2 i1 j1 i2 j2 w) (hi : i2 < m) : ∃ b v, B = some ⟨b, 0, none⟩ ∧ w.cell? ⟨b, i2 * 5 + 1, none⟩ = some v ∧ w.frozen? ⟨b, i2 * 5 + 1, none⟩ = false ∧ BlkW w0 P1 P2 m k A A' B B' c c' d d' L M L2 M2 lo1 lo2 i1 j1 (i2 + 1) j2 (w.setCell ⟨b, i2 * 5 + 1, none⟩ (.int .i64 0)) := by
  obtain ⟨b, v, e, h1, h2, h3, h4, h5⟩ := h.u.setN (by rw [h.l3]; exact hi)
  have q : Keeps (fun x => x = b) w (w.setCell ⟨b, i2 * 5 + 1, none⟩ (.int .i64 0)) := (Keeps.refl (fun x => x = b) w).setCell (p := ⟨b, i2 * 5 + 1, none⟩) (fun _ => rfl) _
  have o1 := h.o1
  have o2 := h.o2
  have o3 := h.o3
  have o4 := h.o4
  have hx := h.x.lt
  have hk := h.kp.size
  exact ⟨b, v, e, h3, h4, { h with x := h.x.keepsR q (fun e => by omega), y := h.y.keepsR q (fun e => by omega), u := h5, t := h.t.keepS q (fun b' g1 g2 e => by omega), kp := h.kp.trans q (fun x _ e => by have e : x = b := e; show w0.heap.size ≤ x; omega) }⟩
theorem BlkW.step3 (h : BlkW w0 P1 P2 m k A A' B B' c c' d d' L M L2 M2 lo1 lo2 i1 j1 i2 j2 w) (hi : j1 < k) : ∃ b v, A' = some ⟨b, 0, none⟩ ∧ w.cell? ⟨b, j1 * 5 + 1, none⟩ = some v ∧ w.frozen? ⟨b, j1 * 5 + 1, none⟩ = false ∧ BlkW w0 P1 P2 m k A A' B B' c c' d d' L M L2 M2 lo1 lo2 i1 (j1 + 1) i2 j2 (w.setCell ⟨b, j1 * 5 + 1, none⟩ (.int .i64 0)) := by
  obtain ⟨b, v, e, h1, h2, h3, h4, h5⟩ := h.t.setF (by rw [h.l2]; exact hi)
  have q : Keeps (fun x => x = b) w (w.setCell ⟨b, j1 * 5 + 1, none⟩ (.int .i64 0)) := (Keeps.refl (fun x => x = b) w).setCell (p := ⟨b, j1 * 5 + 1, none⟩) (fun _ => rfl) _
  have o1 := h.o1
  have o2 := h.o2
  have o3 := h.o3
  have o4 := h.o4
  exact ⟨b, v, e, h3, h4, { h with x := h.x.keepsR q (fun e => by omega), y := h.y.keepsR q (fun e => by omega), t := h5, u := h.u.keepS q (fun b' g1 g2 e => by omega), kp := h.kp.trans q (fun x _ e => by have e : x = b := e; show w0.heap.size ≤ x; omega) }⟩
theorem BlkW.step4 (h : BlkW w0 P1 P2 m k A A' B B' c c' d d' L M L2 M2 lo1 lo2 i1 j1 i2 j2 w) (hi : j2 < k) : ∃ b v, B' = some ⟨b, 0, none⟩ ∧ w.cell? ⟨b, j2 * 5 + 1, none⟩ = some v ∧ w.frozen? ⟨b, j2 * 5 + 1, none⟩ = false ∧ BlkW w0 P1 P2 m k A A' B B' c c' d d' L M L2 M2 lo1 lo2 i1 j1 i2 (j2 + 1) (w.setCell ⟨b, j2 * 5 + 1, none⟩ (.int .i64 0)) := by
  obtain ⟨b, v, e, h1, h2, h3, h4, h5⟩ := h.u.setF (by rw [h.l4]; exact hi)
  have q : Keeps (fun x => x = b) w (w.setCell ⟨b, j2 * 5 + 1, none⟩ (.int .i64 0)) := (Keeps.refl (fun x => x = b) w).setCell (p := ⟨b, j2 * 5 + 1, none⟩) (fun _ => rfl) _
  have o1 := h.o1
  have o2 := h.o2
  have o3 := h.o3
  have o4 := h.o4
  exact ⟨b, v, e, h3, h4, { h with x := h.x.keepsR q (fun e => by omega), y := h.y.keepsR q (fun e => by omega), u := h5, t := h.t.keepS q (fun b' g1 g2 e => by omega), kp := h.kp.trans q (fun x _ e => by have e : x = b := e; show w0.heap.size ≤ x; omega) }⟩
end
end Go.Proofs.YtgelggdgbmldiaaDoor

namespace Go.Proofs.YtgelggdgbmldiaaDoor
open Go Go.RowKit Go.Shelf
set_option linter.unusedVariables false
set_option linter.unusedSimpArgs false
def nd3 : List Nd := [⟨1, 1, 1, [], []⟩, ⟨1, 1, 2, [], []⟩, ⟨9, 1, 0, [43], [0, 1]⟩, ⟨1, 1, 3, [], []⟩, ⟨9, 1, 0, [42], [2, 3]⟩, ⟨14, 1, 0, [], [4]⟩, ⟨18, 1, 0, [], [5]⟩]
def f3 : Fnc := ⟨[109, 97, 105, 110], 1, [], 0, 6⟩
def b3 : Bl := .cons (.print (.bin [42] (.bin [43] (.int 1) (.int 2)) (.int 3))) .nil
theorem shown3_parse : allP 6100 [102, 110, 32, 109, 97, 105, 110, 40, 41, 32, 123, 32, 112, 114, 105, 110, 116, 32, 40, 49, 43, 50, 41, 32, 42, 32, 51, 59, 32, 125] = some (.inr (nd3, [f3])) := by kernel_rfl
theorem shown3_rep : RepB qshow nd3 b3 [5] := by
  unfold b3 RepB
  refine ⟨?_, by unfold RepB; trivial⟩
  unfold RepS
  have q : ∀ x, signs11.contains x = true → x ∈ signs11 := fun x h => by simpa using h
  exact ⟨4, ⟨5, 1, rfl, rfl⟩, 2, 3, ⟨4, 1, rfl, rfl⟩, q _ rfl, ⟨0, 1, ⟨2, 1, rfl, rfl⟩, q _ rfl, ⟨⟨0, 1, rfl, rfl⟩, by decide, by decide⟩, ⟨⟨1, 1, rfl, rfl⟩, by decide, by decide⟩⟩, ⟨⟨3, 1, rfl, rfl⟩, by decide, by decide⟩⟩
theorem shown3_text : ofL (textT [(f3, b3)]) = { data := #[102, 110, 32, 109, 97, 105, 110, 40, 41, 123, 10, 112, 114, 105, 110, 116, 32, 40, 49, 43, 50, 41, 42, 51, 59, 10, 125, 10] } := by kernel_rfl
set_option maxRecDepth 100000 in
set_option maxHeartbeats 16000000 in
theorem shown3_any (w : World) (hw : ShW w) : Calls Tryd.prog 15 #[] w fun e w' => e = .returned (.bool true) ∧ Keeps (fun _ => False) w w' := by
  have AC : Hid (Calls Tryd.prog 16 #[.string { data := #[102, 110, 32, 109, 97, 105, 110, 40, 41, 32, 123, 32, 112, 114, 105, 110, 116, 32, 40, 49, 43, 50, 41, 32, 42, 32, 51, 59, 32, 125] }] w fun e w' => ∃ A c A' c', e = .returned (.tuple #[.agg #[.slice A 7 c, .slice A' 1 c'], .int .i64 0, .int .i64 0]) ∧ TreeR 0 w' A A' nd3 [f3] ∧ Keeps (fun _ => False) w w') := Lib.hid (rsrc_any { data := #[102, 110, 32, 109, 97, 105, 110, 40, 41, 32, 123, 32, 112, 114, 105, 110, 116, 32, 40, 49, 43, 50, 41, 32, 42, 32, 51, 59, 32, 125] } (by decide) _ shown3_parse w)
  have HW := Lib.hid hw
  clear hw
  go_enter Tryd.func15, Tryd.ntmps15
  go_wp2_with fail
  refine AC.out.mono ?_
  rintro e w1 ⟨A, c, A', c', rfl, ht, k1⟩
  have K1 := Lib.hid k1
  have TC : Hid (∀ w2, Keeps (fun _ => False) w1 w2 → Calls Tryd.prog 22 #[.agg #[.slice A 7 c, .slice A' 1 c']] w2 fun r w' => r = .returned (.string { data := #[102, 110, 32, 109, 97, 105, 110, 40, 41, 123, 10, 112, 114, 105, 110, 116, 32, 40, 49, 43, 50, 41, 42, 51, 59, 10, 125, 10] }) ∧ Keeps (fun _ => False) w2 w') := Lib.hid (by
    intro w2 q
    rw [← shown3_text]
    exact ptext_any qshow nd3 [f3] A A' 7 1 c c' rfl rfl [(f3, b3)] rfl (fun p hp => by
      rw [List.mem_singleton.1 hp]
      exact ⟨by show (4 : Nat) ≤ 1000; omega, by decide, fun p hp => by cases hp⟩) (fun p hp => by
      rw [List.mem_singleton.1 hp]
      exact ⟨[5], ⟨6, 1, rfl, rfl⟩, shown3_rep⟩) (Nat.le_of_ble_eq_true (by kernel_rfl)) (fun p hp => by rw [List.mem_singleton.1 hp]; decide) (by omega) (fun p hp => by rw [List.mem_singleton.1 hp]; decide) w2 (HW.out.keep (k1.trans q (fun _ _ h => h))) (ht.keep q))
  have ka := Keeps.one w1 (.cells #[.slice A 7 c, .slice A' 1 c'] 27)
  have TD := Lib.hid (TC.out _ ka)
  have K3 := Lib.hid (K1.out.trans ka (fun _ _ h => h))
  clear AC k1 ht HW TC ka
  go_wp2_with fail
  refine TD.out.mono ?_
  rintro e w2 ⟨rfl, k2⟩
  have K2 := Lib.hid (K3.out.trans k2 (fun _ _ h => h))
  clear TD k2 K1 K3
  go_wp2_with fail
  go_ret
  exact ⟨rfl, K2.out⟩
end Go.Proofs.YtgelggdgbmldiaaDoor

namespace Go.Proofs.YtgelggdgbmldiaaDoor
set_option linter.unusedVariables false
set_option linter.unusedSimpArgs false
/-- No error, no refusal. -/
theorem er_tree {N : Nat} {src : List UInt8} {res : Res} (h : allP N src = some res) (he : erOf res = 0) : ∃ nd fs, res = .inr (nd, fs) := by
  cases res with
  | inl pe => exact absurd he (errs_ne N src pe.1 pe.2 h)
  | inr t => exact ⟨t.1, t.2, rfl⟩
end Go.Proofs.YtgelggdgbmldiaaDoor

namespace Go.Proofs.YtgelggdgbmldiaaDoor
open Go Go.RowKit Go.Shelf
set_option linter.unusedVariables false
set_option linter.unusedSimpArgs false
theorem TreeW.toR0 {lo hi : Nat} {w : World} {A A' : Option Addr} {L : List NM} {M : List FM} (h : TreeW lo hi w A A' L M 0 0) : TreeR 0 w A A' (L.map NM.d) (M.map FM.d) := by
  refine ⟨⟨L, rfl, ?_, ?_⟩, ⟨M, rfl, ?_, ?_⟩⟩
  · intro h0
    rw [flatN_length] at h0
    obtain ⟨b, e, _, _, _, h4⟩ := h.nodes (by omega)
    subst e
    exact rdG_nodes (fun k hk q u hu => h4 k hk q u (by unfold atN; rw [if_neg (Nat.not_lt_zero _)]; exact hu)) (by rw [flatN_length]; exact h0)
  · exact fun x hx => (h.ls x hx).1
  · intro h0
    rw [flatF_length] at h0
    obtain ⟨b, e, _, _, _, h4⟩ := h.fns (by omega)
    subst e
    exact rdG_fns (fun k hk q u hu => h4 k hk q u (by unfold atF; rw [if_neg (Nat.not_lt_zero _)]; exact hu)) (by rw [flatF_length]; exact h0)
  · exact fun x hx => (h.ps x hx).1
/-- The same functions at other lines. -/
theorem ps_move : ∀ (ps : List (Fnc × Bl)) (fs' : List Fnc), fs'.map fz = (ps.map Prod.fst).map fz → ∃ ps', fs' = ps'.map Prod.fst ∧ textT ps' = textT ps ∧ (∀ b, flT ps' b = flT ps b) ∧ (∀ b, BodyOK ps b → BodyOK ps' b) ∧ ((∀ p ∈ ps, WF p.1 p.2) → ∀ p ∈ ps', WF p.1 p.2)
  | [], [], _ => ⟨[], rfl, rfl, fun _ => rfl, fun _ h => h, fun h => h⟩
  | [], _ :: _, h => by cases h
  | _ :: _, [], h => by cases h
  | p :: ps, f :: fs', h => by
    have h0 : fz f :: fs'.map fz = fz p.1 :: (ps.map Prod.fst).map fz := h
    injection h0 with h1 h2
    obtain ⟨ps', e1, e2, e3, e4, e5⟩ := ps_move ps fs' h2
    have hs : f.s = p.1.s := (congrArg Fnc.s h1 : (fz f).s = (fz p.1).s)
    have hp : f.ps = p.1.ps := (congrArg Fnc.ps h1 : (fz f).ps = (fz p.1).ps)
    have hr : f.ret = p.1.ret := (congrArg Fnc.ret h1 : (fz f).ret = (fz p.1).ret)
    have hb : f.body = p.1.body := (congrArg Fnc.body h1 : (fz f).body = (fz p.1).body)
    refine ⟨(f, p.2) :: ps', by rw [e1]; rfl, ?_, fun b => ?_, fun b hk => ?_, fun hw q hq => ?_⟩
    · show textF (f, p.2) ++ textT ps' = textF p ++ textT ps
      rw [e2]
      unfold textF
      rw [show (f, p.2).1 = f from rfl, hs, hp, hr]
    · show flK p.2 b ++ flT ps' (b + kB p.2 + 1) = flK p.2 b ++ flT ps (b + kB p.2 + 1)
      rw [e3]
    · exact ⟨by show f.body = _; rw [hb]; exact hk.1, e4 _ hk.2⟩
    · rcases List.mem_cons.1 hq with rfl | hq
      · obtain ⟨g1, g2, g3, g4⟩ := hw p (by simp)
        exact ⟨by show NameOK f.s; rw [hs]; exact g1, by show ∀ r ∈ f.ps, WP r; rw [hp]; exact g2, by show 0 ≤ f.ret ∧ f.ret ≤ 4; rw [hr]; exact g3, g4⟩
      · exact e5 (fun r hr => hw r (by simp [hr])) q hq
theorem wt_move {nd nd' : List Nd} {fs fs' : List Fnc} {ps : List (Fnc × Bl)} (h : WT nd fs ps) (hn : nd'.map uz = nd.map uz) (hf : fs'.map fz = fs.map fz) : ∃ ps', WT nd' fs' ps' ∧ textT ps' = textT ps := by
  obtain ⟨ps', e1, e2, e3, e4, e5⟩ := ps_move ps fs' (by rw [hf, h.fns])
  exact ⟨ps', ⟨e1, e5 h.ok, by rw [hn, h.nds, e3], e4 0 h.bod⟩, e2⟩
/-- What a walk over a tree's text wants. -/
structure TxW (nd : List Nd) (fs : List Fnc) (ps : List (Fnc × Bl)) : Prop where
  fns : fs = ps.map Prod.fst
  ok : ∀ p ∈ ps, FnOK qshow p.1
  rep : ∀ p ∈ ps, ∃ xs, At nd p.1.body 18 0 [] xs ∧ RepB qshow nd p.2 xs
  len : (textT ps).length ≤ 350000
  mass : ∀ p ∈ ps, massB p.2 ≤ 800000
  prs : ∀ p ∈ ps, p.1.ps.length ≤ 3
  many : fs.length ≤ 6
theorem txw_of {src : List UInt8} {nd : List Nd} {fs : List Fnc} {ps : List (Fnc × Bl)} (hres : allP 6100 src = some (.inr (nd, fs))) (hwt : WT nd fs ps) : TxW nd fs ps := by
  obtain ⟨la, na, _⟩ := tree_out (Nat.le_refl _) hres
  have hnm := names_wt la na hres
  obtain ⟨rfs, rok, rrep, rms⟩ := rep_of_wt hwt
  have HF : Fit nd fs := fit_of hres
  have hQ : ∀ s, qshow s → s.length ≤ 1000 := fun s h => h
  have hsum : sumC nd ≤ 318000 := by
    have h1 := sumC_le hQ nd hnm
    have h2 := HF.nds
    omega
  have hp3 : ∀ p ∈ ps, p.1.ps.length ≤ 3 := fun p hp => HF.prs p.1 (by show p.1 ∈ fs; rw [rfs]; exact List.mem_map.2 ⟨p, hp, rfl⟩)
  have hps : ps.length ≤ 6 := by have h1 : fs.length ≤ 6 := HF.fns; rw [rfs, List.length_map] at h1; exact h1
  exact ⟨rfs, rok, rrep, by have h1 := textT_len hQ ps rok hp3 rrep; omega, fun p hp => by have h1 := massF_mem ps p hp; omega, hp3, HF.fns⟩
theorem txw_any {nd : List Nd} {fs : List Fnc} {ps : List (Fnc × Bl)} (h : TxW nd fs ps) (A A' : Option Addr) (m k c c' : Nat) (hm : m = nd.length) (hk : k = fs.length) (w : World) (hw : ShW w) (hT : TreeR 0 w A A' nd fs) :
    Calls Tryd.prog 22 #[.agg #[.slice A m c, .slice A' k c']] w fun r w' => r = .returned (.string (ofL (textT ps))) ∧ Keeps (fun _ => False) w w' :=
  ptext_any qshow nd fs A A' m k c c' hm hk ps h.fns h.ok h.rep (by have := h.len; omega) h.mass (by have := h.many; omega) (fun p hp => by have := h.prs p hp; omega) w hw hT
set_option maxHeartbeats 16000000 in
theorem rlex_big (s : ByteArray) (hbig : 600 < s.size) (w : World) : Calls Tryd.prog 28 #[.string s] w fun e w' => e = .returned (.tuple #[.slice none 0 0, .int .i64 ((0 : Nat) : Int), .int .i64 ((4 : Nat) : Int)]) ∧ Keeps (fun _ => False) w w' := by
  have hbigI : (600 : Int) < (s.size : Int) := by omega
  have hd : decide ((600 : Int) < (s.size : Int)) = true := decide_eq_true hbigI
  have KR := Lib.hid (Keeps.refl (fun _ => False) w)
  go_enter Tryd.func28, Tryd.ntmps28
  go_wp2
  go_ret3
  exact ⟨rfl, KR.out⟩
/-- A source that is too long. -/
theorem rsrc_big (s : ByteArray) (hs : 600 < s.size) (w : World) : Calls Tryd.prog 16 #[.string s] w fun e w' => ∃ B d B' d', e = .returned (.tuple #[.agg #[.slice B 0 d, .slice B' 0 d'], .int .i64 0, .int .i64 4]) ∧ TreeR 0 w' B B' [] [] ∧ Keeps (fun _ => False) w w' :=
  (rpall_err s w 0 4 (by decide) (fun w1 _ => rlex_big s hs w1)).mono fun e w' ⟨h1, h2⟩ => ⟨none, 0, none, 0, h1, ⟨⟨[], rfl, fun h => absurd h (by decide), fun x hx => by cases hx⟩, ⟨[], rfl, fun h => absurd h (by decide), fun x hx => by cases hx⟩⟩, h2⟩
/-- What the text of a tree comes to. -/
theorem back_data {src : List UInt8} {nd : List Nd} {fs : List Fnc} {ps : List (Fnc × Bl)} (hres : allP 6100 src = some (.inr (nd, fs))) (hwt : WT nd fs ps) (hl : (textT ps).length ≤ 600) : ∃ nd' fs' ps', allP 6100 (textT ps) = some (.inr (nd', fs')) ∧ nd'.map uz = nd.map uz ∧ fs'.map fz = fs.map fz ∧ TxW nd' fs' ps' ∧ textT ps' = textT ps := by
  have HF : Fit nd fs := fit_of hres
  rw [← rend_T ps hwt.ok] at hl
  obtain ⟨nd', fs', h1, h2, h3⟩ := text_back hwt HF.nds HF.fns HF.prs hl
  rw [rend_T ps hwt.ok] at h1
  obtain ⟨ps', h4, h5⟩ := wt_move hwt h2 h3
  exact ⟨nd', fs', ps', h1, h2, h3, txw_of h1 h4, h5⟩
end Go.Proofs.YtgelggdgbmldiaaDoor

namespace Go.Proofs.YtgelggdgbmldiaaDoor
open Go Go.RowKit Go.Shelf
set_option linter.unusedVariables false
set_option linter.unusedSimpArgs false
set_option maxRecDepth 100000 in
set_option maxHeartbeats 32000000 in
theorem showback_walk (s0 : ByteArray) (w : World) (hw : ShW w) (HC : Hid (Calls Tryd.prog 15 #[] w fun e w' => e = .returned (.bool true) ∧ Keeps (fun _ => False) w w')) : Calls Tryd.prog 8 #[.string s0] w fun e w' => e = .returned (.bool true) ∧ Keeps (fun _ => False) w w' := by
  have HW := Lib.hid hw
  clear hw
  go_enter Tryd.func8, Tryd.ntmps8
  go_wp2_with fail
  refine HC.out.mono ?_
  rintro e w1 ⟨rfl, k1⟩
  have K1 := Lib.hid k1
  have SC := Lib.hid (short3_any s0 w1)
  clear HC k1
  go_wp2_with fail
  refine SC.out.mono ?_
  rintro e w2 ⟨⟨t, ht, rfl⟩, rfl⟩
  obtain ⟨res, hres⟩ := allP_some t.data.toList 6100 (Nat.le_refl _)
  have RC := Lib.hid (rsrc_any t (by omega) res hres w2)
  clear SC ht
  by_cases he0 : erOf res = 0
  · obtain ⟨nd, fs, rfl⟩ := er_tree hres he0
    obtain ⟨ps, hwt⟩ := tree_wt hres
    have hF : Fit nd fs := fit_of hres
    have HFit := Lib.hid hF
    have HTX := Lib.hid (txw_of hres hwt)
    have HBD := Lib.hid (fun h => back_data hres hwt h)
    obtain ⟨m, hm⟩ : ∃ m, m = nd.length := ⟨_, rfl⟩
    obtain ⟨k, hk⟩ : ∃ k, k = fs.length := ⟨_, rfl⟩
    have HM := Lib.hid hm
    have HK := Lib.hid hk
    have HLIM : Hid (m ≤ 300 ∧ k ≤ 6) := Lib.hid ⟨by rw [hm]; exact hF.nds, by rw [hk]; exact hF.fns⟩
    obtain ⟨lo1, hlo1⟩ : ∃ x, x = w2.heap.size := ⟨_, rfl⟩
    have RX : Hid (Calls Tryd.prog 16 #[.string t] w2 fun e w' => ∃ A c A' c', e = .returned (.tuple #[.agg #[.slice A m c, .slice A' k c'], .int .i64 0, .int .i64 0]) ∧ (∃ L M, L.map NM.d = nd ∧ M.map FM.d = fs ∧ TreeW lo1 w'.heap.size w' A A' L M 0 0) ∧ Keeps (fun _ => False) w2 w') := Lib.hid (by rw [hm, hk, hlo1]; exact rsrcX t nd fs hres w2)
    have HO1 : Hid (w.heap.size ≤ lo1) := Lib.hid (by rw [hlo1]; exact K1.out.size)
    clear hm hk hwt hF hres he0 RC hlo1
    go_wp2_with fail
    refine RX.out.mono ?_
    rintro e w3 ⟨A, c, A', c', rfl, hTr, k3⟩
    have K3 := Lib.hid (K1.out.trans k3 (fun _ _ h => h))
    have HT3 := Lib.hid hTr
    clear RX K1 k3 hTr
    go_upto_region 3 with fail
    have ka := Keeps.one w3 (.cells #[.slice A m c, .slice A' k c'] 27)
    obtain ⟨P1, hP1⟩ : ∃ X, X = w3.heap.size := ⟨_, rfl⟩
    obtain ⟨w4, hw4⟩ : ∃ w4, w4 = w3.alloc (.cells #[.slice A m c, .slice A' k c'] 27) := ⟨_, rfl⟩
    have HX4 : Hid (Loc w4 (fun _ => False) P1 [.slice A m c, .slice A' k c']) := Lib.hid (by rw [hw4, hP1]; exact Loc.new (fun h => h) [.slice A m c, .slice A' k c'] 27)
    have HT4 : Hid (∃ L M, L.map NM.d = nd ∧ M.map FM.d = fs ∧ TreeW lo1 P1 w4 A A' L M 0 0) := Lib.hid (by
      obtain ⟨L, M, h1, h2, h3⟩ := HT3.out
      rw [← hP1] at h3
      refine ⟨L, M, h1, h2, ?_⟩
      rw [hw4]
      exact h3.keep ka)
    have HO4 : Hid (w.heap.size ≤ P1) := Lib.hid (by rw [hP1]; exact K3.out.size)
    rw [← hP1]
    rw [← hw4] at ka ⊢
    have K4 := Lib.hid (K3.out.trans ka (fun _ _ h => h))
    have HW4 := Lib.hid (HW.out.keep K4.out)
    clear ka hw4 hP1 K3 HT3 HW
    obtain ⟨S, hS⟩ : ∃ S, S = ofL (textT ps) := ⟨_, rfl⟩
    have HS := Lib.hid hS
    have TP : Hid (Calls Tryd.prog 22 #[.agg #[.slice A m c, .slice A' k c']] w4 fun r w'' => r = .returned (.string S) ∧ Keeps (fun _ => False) w4 w'') := Lib.hid (by
      rw [HS.out]
      obtain ⟨L, M, h1, h2, h3⟩ := HT4.out
      have h4 := h3.toR0
      rw [h1, h2] at h4
      exact txw_any HTX.out A A' m k c c' HM.out HK.out w4 HW4.out h4)
    have x0 := HX4.out.cells 0 _ rfl
    have x1 := HX4.out.cells 1 _ rfl
    have hsz : S.size = (textT ps).length := by rw [hS]; exact ofL_size _
    have hsl : S.data.toList = textT ps := by rw [hS]; exact ofL_list _
    clear hS
    go_wp2_with fail
    refine TP.out.mono ?_
    rintro e w5 ⟨rfl, k5⟩
    have K5 := Lib.hid (K4.out.trans k5 (fun _ _ h => h))
    have HX5 := Lib.hid (HX4.out.keeps k5)
    have HT5 : Hid (∃ L M, L.map NM.d = nd ∧ M.map FM.d = fs ∧ TreeW lo1 P1 w5 A A' L M 0 0) := Lib.hid (by
      obtain ⟨L, M, h1, h2, h3⟩ := HT4.out
      exact ⟨L, M, h1, h2, h3.keep k5⟩)
    have HW5 := Lib.hid (HW4.out.keep k5)
    clear TP k5 K4 HX4 HT4 HW4 x0 x1
    by_cases hbig : 600 < S.size
    · have hbI : (S.size : Int) > 600 := by omega
      have hbd : decide ((S.size : Int) > 600) = true := decide_eq_true hbI
      have hz : S.size ≤ 350000 := by rw [hsz]; exact HTX.out.len
      have BC : Hid (Calls Tryd.prog 16 #[.string S] w5 fun e w' => ∃ B d B' d', e = .returned (.tuple #[.agg #[.slice B 0 d, .slice B' 0 d'], .int .i64 0, .int .i64 4]) ∧ TreeR 0 w' B B' [] [] ∧ Keeps (fun _ => False) w5 w') := Lib.hid (rsrc_big S hbig w5)
      clear hsz hsl
      go_wp2_with fail
      refine BC.out.mono ?_
      rintro e w6 ⟨B, d, B', d', rfl, -, k6⟩
      have K6 := Lib.hid (K5.out.trans k6 (fun _ _ h => h))
      clear BC k6
      go_upto_region 7 with fail
      have ka := Keeps.one w6 (.cells #[.slice B 0 d, .slice B' 0 d'] 27)
      obtain ⟨w7, hw7⟩ : ∃ w7, w7 = w6.alloc (.cells #[.slice B 0 d, .slice B' 0 d'] 27) := ⟨_, rfl⟩
      rw [← hw7] at ka ⊢
      have K7 := Lib.hid (K6.out.trans ka (fun _ _ h => h))
      generalize w6.heap.size = X6
      clear ka hw7 K6
      go_wp2_with fail
      go_ret
      exact ⟨rfl, K7.out⟩
    · have hbI : ¬ (S.size : Int) > 600 := by omega
      have hbd : decide ((S.size : Int) > 600) = false := decide_eq_false hbI
      obtain ⟨nd', fs', ps', hal, hnd, hfs, htx, hte⟩ := HBD.out (by rw [← hsz]; omega)
      have HTX2 := Lib.hid htx
      have HND : Hid (nd'.map un = nd.map un) := Lib.hid hnd
      have HFS : Hid (fs'.map unF = fs.map unF) := Lib.hid hfs
      have hm2 : nd'.length = m := by have := congrArg List.length hnd; rw [List.length_map, List.length_map] at this; rw [this]; exact HM.out.symm
      have hk2 : fs'.length = k := by have := congrArg List.length hfs; rw [List.length_map, List.length_map] at this; rw [this]; exact HK.out.symm
      have HM2 := Lib.hid hm2
      have HK2 := Lib.hid hk2
      have HS2 : Hid (S = ofL (textT ps')) := Lib.hid (by rw [hte]; exact HS.out)
      obtain ⟨lo2, hlo2⟩ : ∃ x, x = w5.heap.size := ⟨_, rfl⟩
      have HO2 : Hid (P1 < lo2) := Lib.hid (by rw [hlo2]; exact HX5.out.lt)
      have BC : Hid (Calls Tryd.prog 16 #[.string S] w5 fun e w' => ∃ B d B' d', e = .returned (.tuple #[.agg #[.slice B m d, .slice B' k d'], .int .i64 0, .int .i64 0]) ∧ (∃ L M, L.map NM.d = nd' ∧ M.map FM.d = fs' ∧ TreeW lo2 w'.heap.size w' B B' L M 0 0) ∧ Keeps (fun _ => False) w5 w') := Lib.hid (by
        rw [← hm2, ← hk2, hlo2]
        exact rsrcX S nd' fs' (by rw [hsl]; exact hal) w5)
      clear hsz hsl hal hnd hfs htx hte hm2 hk2 hlo2 HBD
      go_wp2_with fail
      refine BC.out.mono ?_
      rintro e w6 ⟨B, d, B', d', rfl, hU, k6⟩
      have K6 := Lib.hid (K5.out.trans k6 (fun _ _ h => h))
      have HU6 := Lib.hid hU
      have HX6 := Lib.hid (HX5.out.keeps k6)
      have HT6 : Hid (∃ L M, L.map NM.d = nd ∧ M.map FM.d = fs ∧ TreeW lo1 P1 w6 A A' L M 0 0) := Lib.hid (by
        obtain ⟨L, M, h1, h2, h3⟩ := HT5.out
        exact ⟨L, M, h1, h2, h3.keep k6⟩)
      have HW6 := Lib.hid (HW5.out.keep k6)
      have HO7 : Hid (P1 < w6.heap.size) := Lib.hid HX6.out.lt
      clear BC k6 hU K5 HX5 HT5 HW5
      go_upto_region 7 with fail
      have ka := Keeps.one w6 (.cells #[.slice B m d, .slice B' k d'] 27)
      obtain ⟨P2, hP2⟩ : ∃ X, X = w6.heap.size := ⟨_, rfl⟩
      obtain ⟨w7, hw7⟩ : ∃ w7, w7 = w6.alloc (.cells #[.slice B m d, .slice B' k d'] 27) := ⟨_, rfl⟩
      have HY7 : Hid (Loc w7 (fun _ => False) P2 [.slice B m d, .slice B' k d']) := Lib.hid (by rw [hw7, hP2]; exact Loc.new (fun h => h) [.slice B m d, .slice B' k d'] 27)
      rw [← hP2]
      rw [← hw7] at ka ⊢
      have HBALL : Hid (∃ L M L2 M2, L.map NM.d = nd ∧ M.map FM.d = fs ∧ L2.map NM.d = nd' ∧ M2.map FM.d = fs' ∧ BlkW w P1 P2 m k A A' B B' c c' d d' L M L2 M2 lo1 lo2 0 0 0 0 w7) := Lib.hid (by
        obtain ⟨L, M, h1, h2, h3⟩ := HT6.out
        obtain ⟨L2, M2, h4, h5, h6⟩ := HU6.out
        rw [← hP2] at h6
        refine ⟨L, M, L2, M2, h1, h2, h4, h5, { x := HX6.out.keeps ka, y := HY7.out, t := h3.keep ka, u := h6.keep ka, kp := ((K6.out.trans ka (fun _ _ h => h)).mono (fun _ _ h => h.elim)), o1 := HO1.out, o2 := HO2.out, o3 := by rw [hP2]; exact HO7.out, o4 := HO4.out, l1 := ?_, l2 := ?_, l3 := ?_, l4 := ?_ }⟩
        · rw [HM.out, ← h1, List.length_map]
        · rw [HK.out, ← h2, List.length_map]
        · rw [← HM2.out, ← h4, List.length_map]
        · rw [← HK2.out, ← h5, List.length_map])
      obtain ⟨L, M, L2, M2, g1, g2, g3, g4, g5⟩ := HBALL.out
      have HB0 := Lib.hid g5
      have HD4 : Hid (L.map NM.d = nd ∧ M.map FM.d = fs ∧ L2.map NM.d = nd' ∧ M2.map FM.d = fs') := Lib.hid ⟨g1, g2, g3, g4⟩
      have HW7 := Lib.hid (HW6.out.keep ka)
      clear ka hw7 hP2 g1 g2 g3 g4 g5 HBALL HY7 HX6 HT6 HU6 HO2 HO7 HO4 HO1 K6 HW6
      have TP : Hid (Calls Tryd.prog 22 #[.agg #[.slice B m d, .slice B' k d']] w7 fun r w'' => r = .returned (.string S) ∧ Keeps (fun _ => False) w7 w'') := Lib.hid (by
        rw [HS2.out]
        have h4 := HB0.out.u.toR0
        rw [HD4.out.2.2.1, HD4.out.2.2.2] at h4
        exact txw_any HTX2.out B B' m k d d' HM2.out.symm HK2.out.symm w7 HW7.out h4)
      have y0 := HB0.out.y.cells 0 _ rfl
      have y1 := HB0.out.y.cells 1 _ rfl
      go_wp2_with fail
      refine TP.out.mono ?_
      rintro e w8 ⟨rfl, k8⟩
      have HB1 := Lib.hid (HB0.out.keep k8)
      clear TP k8 HB0 HW7 y0 y1 hbI hbd
      go_upto_region 11 with fail
      go_loopg [12] (m + 1) (fun g s12 wr => ∃ i : Nat, s12 = .int .i64 i ∧ i + g = m + 1 ∧ i ≤ m ∧ BlkW w P1 P2 m k A A' B B' c c' d d' L M L2 M2 lo1 lo2 i 0 0 0 wr)
      case atStart => exact ⟨0, rfl, by omega, by omega, HB1.out⟩
      case round =>
        obtain ⟨i, rfl, hik, him, hb⟩ := hrel
        have HIK := Lib.hid hik
        have HBB := Lib.hid hb
        have LIM := HLIM.out
        have z0 := hb.x.cells 0 _ rfl
        have z1 := hb.x.cells 1 _ rfl
        have y0 := hb.y.cells 0 _ rfl
        have y1 := hb.y.cells 1 _ rfl
        clear hb
        by_cases hin : i < m
        · have hinI : (i : Int) < (m : Int) := by omega
          have hind : decide ((i : Int) < (m : Int)) = true := decide_eq_true hinI
          have hi0 : (0 : Int) ≤ (i : Int) := by omega
          have wi : IntKind.i64.wrap ((i : Int) + 1) = (i : Int) + 1 := IntWalk.i64_in _ (by omega)
          have HIN := Lib.hid hin
          obtain ⟨b, v, hA, e1, e2, hb2⟩ := HBB.out.step1 hin
          have HA2 := Lib.hid hA
          have HB2 := Lib.hid hb2
          rw [hA] at z0
          clear hA hb2 hik him hin LIM
          go_wp2_with fail
          go_roundg (gk - 1)
          case measure => go_light; have h1 := HIK.out; have h2 := HIN.out; omega
          case rel => exact ⟨i + 1, by go_num, by have h1 := HIK.out; have h2 := HIN.out; go_light; omega, by have h2 := HIN.out; go_light; omega, HB2.out⟩
        · obtain rfl : m = i := by omega
          have hinI : ¬ (m : Int) < (m : Int) := by omega
          have hind : decide ((m : Int) < (m : Int)) = false := decide_eq_false hinI
          clear hin hik him LIM
          have HB2 := HBB
          obtain ⟨wl, hwl⟩ : ∃ x, x = wr := ⟨_, rfl⟩
          subst hwl
          obtain ⟨gl1, hgl⟩ : ∃ x, x = gk := ⟨_, rfl⟩
          subst hgl
          go_upto_region 15 with fail
          clear z0 z1 y0 y1 hinI hind
          go_loopg [13] (m + 1) (fun g s13 wr => ∃ i : Nat, s13 = .int .i64 i ∧ i + g = m + 1 ∧ i ≤ m ∧ BlkW w P1 P2 m k A A' B B' c c' d d' L M L2 M2 lo1 lo2 m 0 i 0 wr)
          case atStart => exact ⟨0, rfl, by omega, by omega, HB2.out⟩
          case round =>
            obtain ⟨i, rfl, hik, him, hb⟩ := hrel
            have HIK := Lib.hid hik
            have HBB := Lib.hid hb
            have LIM := HLIM.out
            have z0 := hb.x.cells 0 _ rfl
            have z1 := hb.x.cells 1 _ rfl
            have y0 := hb.y.cells 0 _ rfl
            have y1 := hb.y.cells 1 _ rfl
            clear hb
            by_cases hin : i < m
            · have hinI : (i : Int) < (m : Int) := by omega
              have hind : decide ((i : Int) < (m : Int)) = true := decide_eq_true hinI
              have hi0 : (0 : Int) ≤ (i : Int) := by omega
              have wi : IntKind.i64.wrap ((i : Int) + 1) = (i : Int) + 1 := IntWalk.i64_in _ (by omega)
              have HIN := Lib.hid hin
              obtain ⟨b, v, hA, e1, e2, hb2⟩ := HBB.out.step2 hin
              have HA2 := Lib.hid hA
              have HB2 := Lib.hid hb2
              rw [hA] at y0
              clear hA hb2 hik him hin LIM
              go_wp2_with fail
              go_roundg (gk - 1)
              case measure => go_light; have h1 := HIK.out; have h2 := HIN.out; omega
              case rel => exact ⟨i + 1, by go_num, by have h1 := HIK.out; have h2 := HIN.out; go_light; omega, by have h2 := HIN.out; go_light; omega, HB2.out⟩
            · obtain rfl : m = i := by omega
              have hinI : ¬ (m : Int) < (m : Int) := by omega
              have hind : decide ((m : Int) < (m : Int)) = false := decide_eq_false hinI
              clear hin hik him LIM
              have HB3 := HBB
              obtain ⟨wl, hwl⟩ : ∃ x, x = wr := ⟨_, rfl⟩
              subst hwl
              obtain ⟨gl2, hgl⟩ : ∃ x, x = gk := ⟨_, rfl⟩
              subst hgl
              go_upto_region 19 with fail
              clear z0 z1 y0 y1 hinI hind
              go_loopg [14] (k + 1) (fun g s14 wr => ∃ i : Nat, s14 = .int .i64 i ∧ i + g = k + 1 ∧ i ≤ k ∧ BlkW w P1 P2 m k A A' B B' c c' d d' L M L2 M2 lo1 lo2 m i m 0 wr)
              case atStart => exact ⟨0, rfl, by omega, by omega, HB3.out⟩
              case round =>
                obtain ⟨i, rfl, hik, him, hb⟩ := hrel
                have HIK := Lib.hid hik
                have HBB := Lib.hid hb
                have LIM := HLIM.out
                have z0 := hb.x.cells 0 _ rfl
                have z1 := hb.x.cells 1 _ rfl
                have y0 := hb.y.cells 0 _ rfl
                have y1 := hb.y.cells 1 _ rfl
                clear hb
                by_cases hin : i < k
                · have hinI : (i : Int) < (k : Int) := by omega
                  have hind : decide ((i : Int) < (k : Int)) = true := decide_eq_true hinI
                  have hi0 : (0 : Int) ≤ (i : Int) := by omega
                  have wi : IntKind.i64.wrap ((i : Int) + 1) = (i : Int) + 1 := IntWalk.i64_in _ (by omega)
                  have HIN := Lib.hid hin
                  obtain ⟨b, v, hA, e1, e2, hb2⟩ := HBB.out.step3 hin
                  have HA2 := Lib.hid hA
                  have HB2 := Lib.hid hb2
                  rw [hA] at z1
                  clear hA hb2 hik him hin LIM
                  go_wp2_with fail
                  go_roundg (gk - 1)
                  case measure => go_light; have h1 := HIK.out; have h2 := HIN.out; omega
                  case rel => exact ⟨i + 1, by go_num, by have h1 := HIK.out; have h2 := HIN.out; go_light; omega, by have h2 := HIN.out; go_light; omega, HB2.out⟩
                · obtain rfl : k = i := by omega
                  have hinI : ¬ (k : Int) < (k : Int) := by omega
                  have hind : decide ((k : Int) < (k : Int)) = false := decide_eq_false hinI
                  clear hin hik him LIM
                  have HB4 := HBB
                  obtain ⟨wl, hwl⟩ : ∃ x, x = wr := ⟨_, rfl⟩
                  subst hwl
                  obtain ⟨gl3, hgl⟩ : ∃ x, x = gk := ⟨_, rfl⟩
                  subst hgl
                  go_upto_region 23 with fail
                  clear z0 z1 y0 y1 hinI hind
                  go_loopg [15] (k + 1) (fun g s15 wr => ∃ i : Nat, s15 = .int .i64 i ∧ i + g = k + 1 ∧ i ≤ k ∧ BlkW w P1 P2 m k A A' B B' c c' d d' L M L2 M2 lo1 lo2 m k m i wr)
                  case atStart => exact ⟨0, rfl, by omega, by omega, HB4.out⟩
                  case round =>
                    obtain ⟨i, rfl, hik, him, hb⟩ := hrel
                    have HIK := Lib.hid hik
                    have HBB := Lib.hid hb
                    have LIM := HLIM.out
                    have z0 := hb.x.cells 0 _ rfl
                    have z1 := hb.x.cells 1 _ rfl
                    have y0 := hb.y.cells 0 _ rfl
                    have y1 := hb.y.cells 1 _ rfl
                    clear hb
                    by_cases hin : i < k
                    · have hinI : (i : Int) < (k : Int) := by omega
                      have hind : decide ((i : Int) < (k : Int)) = true := decide_eq_true hinI
                      have hi0 : (0 : Int) ≤ (i : Int) := by omega
                      have wi : IntKind.i64.wrap ((i : Int) + 1) = (i : Int) + 1 := IntWalk.i64_in _ (by omega)
                      have HIN := Lib.hid hin
                      obtain ⟨b, v, hA, e1, e2, hb2⟩ := HBB.out.step4 hin
                      have HA2 := Lib.hid hA
                      have HB2 := Lib.hid hb2
                      rw [hA] at y1
                      clear hA hb2 hik him hin LIM
                      go_wp2_with fail
                      go_roundg (gk - 1)
                      case measure => go_light; have h1 := HIK.out; have h2 := HIN.out; omega
                      case rel => exact ⟨i + 1, by go_num, by have h1 := HIK.out; have h2 := HIN.out; go_light; omega, by have h2 := HIN.out; go_light; omega, HB2.out⟩
                    · obtain rfl : k = i := by omega
                      have hinI : ¬ (k : Int) < (k : Int) := by omega
                      have hind : decide ((k : Int) < (k : Int)) = false := decide_eq_false hinI
                      clear hin hik him LIM
                      have HB5 := HBB
                      obtain ⟨wl, hwl⟩ : ∃ x, x = wr := ⟨_, rfl⟩
                      subst hwl
                      obtain ⟨gl4, hgl⟩ : ∃ x, x = gk := ⟨_, rfl⟩
                      subst hgl
                      go_upto_region 26 with fail
                      clear z0 z1 y0 y1 hinI hind
                      have HSS : Hid (TreeR 0 wl A A' (nd.map un) (fs.map unF) ∧ TreeR 0 wl B B' (nd.map un) (fs.map unF)) := Lib.hid (by
                        obtain ⟨g1, g2, g3, g4⟩ := HD4.out
                        have h := HB5.out
                        have t1 := h.t.toR h.l1.symm h.l2.symm
                        have t2 := h.u.toR h.l3.symm h.l4.symm
                        rw [g1, g2] at t1
                        rw [g3, g4, HND.out, HFS.out] at t2
                        exact ⟨t1, t2⟩)
                      have KB : Hid (Keeps (fun _ => False) w wl) := Lib.hid (kback HB5.out.kp rfl)
                      have QC : Hid (Calls Tryd.prog 14 #[.agg #[.slice A m c, .slice A' k c'], .agg #[.slice B m d, .slice B' k d']] wl fun e w' => e = .returned (.bool true) ∧ Keeps (fun _ => False) wl w') := Lib.hid (same_any A A' B B' c c' d d' m k (nd.map un) (fs.map unF) wl HSS.out.1 HSS.out.2 (by rw [List.length_map]; exact HM.out) (by rw [List.length_map]; exact HK.out) ⟨by have := HLIM.out.1; omega, fun x hx => by obtain ⟨y, hy, rfl⟩ := List.mem_map.1 hx; exact Nat.le_trans (HFit.out.kids y hy) (by omega)⟩ (by have := HLIM.out.2; omega) (fun x hx => by obtain ⟨y, hy, rfl⟩ := List.mem_map.1 hx; exact Nat.le_trans (HFit.out.prs y hy) (by omega)))
                      have z0 := HB5.out.x.cells 0 _ rfl
                      have z1 := HB5.out.x.cells 1 _ rfl
                      have y0 := HB5.out.y.cells 0 _ rfl
                      have y1 := HB5.out.y.cells 1 _ rfl
                      go_wp2_with fail
                      refine QC.out.mono ?_
                      rintro e wz ⟨rfl, kz⟩
                      have KZ := Lib.hid (KB.out.trans kz (fun _ _ h => h))
                      clear QC kz z0 z1 y0 y1 KB HSS
                      go_wp2_with fail
                      go_ret
                      exact ⟨rfl, KZ.out⟩
  · have hne : ((erOf res : Int) != 0) = true := by simp; omega
    generalize (ndsOf res).length = nm at RC
    generalize (fnsOf res).length = nk at RC
    generalize (atOf res : Int) = ax at RC
    generalize (erOf res : Int) = ex at RC hne
    clear hres he0
    go_wp2_with fail
    refine RC.out.mono ?_
    rintro e w3 ⟨A, c, A', c', rfl, hTr, k3⟩
    have K3 := Lib.hid (K1.out.trans k3 (fun _ _ h => h))
    clear RC K1 k3 hTr
    go_upto_region 3 with fail
    have ka := Keeps.one w3 (.cells #[.slice A nm c, .slice A' nk c'] 27)
    obtain ⟨w4, hw⟩ : ∃ w4, w4 = w3.alloc (.cells #[.slice A nm c, .slice A' nk c'] 27) := ⟨_, rfl⟩
    rw [← hw] at ka ⊢
    have K4 := Lib.hid (K3.out.trans ka (fun _ _ h => h))
    generalize w3.heap.size = X4
    clear ka hw K3
    go_wp2_with fail
    go_ret
    exact ⟨rfl, K4.out⟩
end Go.Proofs.YtgelggdgbmldiaaDoor

namespace Go.Proofs.YtgelggdgbmldiaaDoor
open Go Go.ChangeShapes Go.RowKit
set_option linter.unusedVariables false
theorem below_of {f : Nat} {args : Array Value} {W : World} (h : Calls Tryd.prog f args W fun e w' => e = .returned (.bool true) ∧ Keeps (fun _ => False) W w') : Calls Tryd.prog f args W fun e w' => e = .returned (.bool true) ∧ Below W.heap.size W w' :=
  h.mono fun e w' h => ⟨h.1, h.2.toBelow (Nat.le_refl _) (fun _ h => h.elim)⟩
end Go.Proofs.YtgelggdgbmldiaaDoor

namespace Go.Proofs.YtgelggdgbmldiaaDoor
open Go Go.ChangeShapes Go.RowKit
set_option linter.unusedVariables false
theorem gPow : Tryd.prog.globalNamed "internal/strconv.uint64pow10" = some 1 := by kernel_rfl
theorem tPow : (Tryd.prog.globals[1]?).map (·.type) = some 125 := by kernel_rfl
theorem powData : Lib.tabData (H := Unit) .u64 Lib.pow10Tab = Rows.laid_internal_strconv_uint64pow10 := rfl
theorem shW_of_laid {W : World} (h : laidMetH Tryd.prog Rows.showAllRow.laid W) : ShW W := by
  rw [MakeChecks.laidMetH_plain _ _ _ (by kernel_rfl)] at h
  have h2 := laidMet.tail (laidMet.tail h)
  rw [← powData] at h2
  have hT := Lib.tabIs_of_head gPow tPow Tryd.underlying125 Tryd.underlying118 (by kernel_rfl) (by kernel_rfl) h2
  have hc := hT.cell gPow 0 (by decide)
  exact ⟨hT, fun p hp => by rw [gPow] at hp; cases hp; simpa using World.block_lt_of_cell? W _ hc⟩
end Go.Proofs.YtgelggdgbmldiaaDoor
