/-
 Layer 4: the program's All, of any tree. Written by an AI agent.
 Layer 4: where errors stand; the program's Source. Written by an AI agent.
-/
import Derived.Test.YtbhpnioggpgbhaaGreatDoorMcbi
namespace Go.Proofs.YtbhpnioggpgbhaaGreatDoor
open Go Go.RowKit Go.Shelf
set_option linter.unusedVariables false
set_option linter.unusedSimpArgs false
set_option maxRecDepth 100000 in
set_option maxHeartbeats 16000000 in
theorem pckall_bad (nd : List Nd) (fs : List Fnc) (A A' : Option Addr) (M K cc cd : Nat) (hK : K = fs.length) (hK6 : K ≤ 1000) (w : World) (hT : TreeR 0 w A A' nd fs) (z : Int × Int) (hz : HdZ fs z) (hn : z.2 ≠ 0) (zz : Int × Nat) (hzz : z = (zz.1, (zz.2 : Int))) :
  Calls Tryz.prog 15 #[.agg #[.slice A M cc, .slice A' K cd]] w (CkOut nd fs (.error zz) w) := by
 have HT := Lib.hid hT
 have HK := Lib.hid hK
 have HZ := Lib.hid hz
 have HK6 := Lib.hid hK6
 have HZZ := Lib.hid hzz
 have hzb : (z.2 != 0) = true := by simpa using hn
 clear hT hK hz hzz
 go_enter Tryz.func15, Tryz.ntmps15
 go_upto_region 1 with fail
 obtain ⟨P1, hP1⟩ : ∃ X, X = w.heap.size := ⟨_, rfl⟩
 obtain ⟨w1, hw1⟩ : ∃ w1, w1 = w.alloc (.cells #[.slice A M cc, .slice A' K cd] 27) := ⟨_, rfl⟩
 have ka := Keeps.one w (.cells #[.slice A M cc, .slice A' K cd] 27)
 have L1 : Loc w1 (fun _ => False) P1 [.slice A M cc, .slice A' K cd] := by rw [hw1, hP1]; exact Loc.new (fun h => h) [.slice A M cc, .slice A' K cd] 27
 have e1 : w1.heap.size = P1 + 1 := by rw [hw1, hP1]; simp
 rw [← hP1]
 rw [← hw1] at ka ⊢
 obtain ⟨w2, hw2⟩ : ∃ w2, w2 = w1.alloc (.cells #[.slice none 0 0, .slice none 0 0, .slice none 0 0, .slice none 0 0, .slice none 0 0, .slice none 0 0] 30) := ⟨_, rfl⟩
 have kb := Keeps.one w1 (.cells #[.slice none 0 0, .slice none 0 0, .slice none 0 0, .slice none 0 0, .slice none 0 0, .slice none 0 0] 30)
 have L2 : Loc w2 (fun _ => False) (P1 + 1) [.slice none 0 0, .slice none 0 0, .slice none 0 0, .slice none 0 0, .slice none 0 0, .slice none 0 0] := by rw [hw2, ← e1]; exact Loc.new (fun h => h) [.slice none 0 0, .slice none 0 0, .slice none 0 0, .slice none 0 0, .slice none 0 0, .slice none 0 0] 30
 rw [← hw2] at kb ⊢
 obtain ⟨P2, hP2⟩ : ∃ X, X = P1 + 1 := ⟨_, rfl⟩
 rw [← hP2] at L2 ⊢
 have L1' := L1.keeps kb
 have NC := pheads_any nd fs A A' M K cc cd HK.out HK6.out w2 (HT.out.keep (ka.trans kb (fun _ _ h => h))) z HZ.out
 have K2 := Lib.hid (ka.trans kb (fun _ _ h => h))
 have HP1 := Lib.hid hP1
 have HP2 := Lib.hid hP2
 have HL1 := Lib.hid L1'
 have HL2 := Lib.hid L2
 have a0 := L1'.cells 0 _ rfl
 have a1 := L1'.cells 1 _ rfl
 have NC := Lib.hid NC
 clear ka kb hw1 hw2 e1 L1 L1' L2 hP1 hP2
 go_wp2_with fail
 refine NC.out.mono ?_
 rintro e w3 ⟨rfl, k3⟩
 have L2 := HL2.out.keeps k3
 have f0 := L2.cells 0 _ rfl
 have f1 := L2.cells 1 _ rfl
 have f2 := L2.cells 2 _ rfl
 have f3 := L2.cells 3 _ rfl
 have f4 := L2.cells 4 _ rfl
 have f5 := L2.cells 5 _ rfl
 have g0 := L2.fz 0
 have g1 := L2.fz 1
 have g2 := L2.fz 2
 have g3 := L2.fz 3
 have g4 := L2.fz 4
 have g5 := L2.fz 5
 have K3 := Lib.hid (K2.out.trans k3 (fun _ _ h => h))
 have FIN : Hid (∀ w', Keeps (fun b => b = P2) w3 w' → Keeps (fun _ => False) w w') := Lib.hid (fun w' k => kback ((K3.out.mono (T := fun b => w.heap.size ≤ b) (fun _ _ h => h.elim)).trans k (fun x hx e => by have h1 := HP1.out; have h2 := HP2.out; have e : x = P2 := e; show w.heap.size ≤ x; omega)) rfl)
 obtain ⟨zb, hb⟩ : ∃ t, t = z.1 := ⟨_, rfl⟩
 obtain ⟨ze, he⟩ : ∃ t, t = z.2 := ⟨_, rfl⟩
 rw [← he] at hzb
 rw [← hb, ← he]
 have HB := Lib.hid hb
 have HE := Lib.hid he
 clear NC k3 L2 hb he a0 a1 hn
 go_wp2_with fail
 (try simp only [Exit.inBlock, Exit.then])
 refine bodyPost_ret (v := .tuple #[noPrg, .int .i64 zb, .int .i64 ze]) ?_ rfl ?_
 ·first | (rw [results_cell_tmp3 rfl]; go_simp; done) | (rw [results_cell_tmp3 rfl]; go_simp; rfl)
 ·first | exact ⟨FIN.out _ (setL_keeps (P := P2) [.slice none 0 0, .slice none 0 0, .slice none 0 0, .slice none 0 0, .slice none 0 0, .slice none 0 0] 0 w3), by show _ = _; rw [HB.out, HE.out, HZZ.out]⟩ | exact ⟨FIN.out _ ((setL_keeps (P := P2) [.slice none 0 0, .slice none 0 0, .slice none 0 0, .slice none 0 0, .slice none 0 0, .slice none 0 0] 0 w3).drew), by show _ = _; rw [HB.out, HE.out, HZZ.out]⟩
theorem sg_WE : ∀ (e : Ex) (lv : Nat) (d : Int), WE lv d e → SgE e := by
 intro e
 induction e with
 | int n => exact fun _ _ _ => trivial
 | bool b => exact fun _ _ _ => trivial
 | text s => exact fun _ _ _ => trivial
 | var s => exact fun _ _ _ => trivial
 | index s a ih => exact fun _ _ h => ih _ _ h.2.2
 | len a ih => exact fun _ _ h => ih _ _ h.2
 | neg a ih => exact fun _ _ h => ih _ _ h.2
 | not a ih => exact fun _ _ h => ih _ _ h.2
 | bin s a b iha ihb =>
  intro lv d h
  refine ⟨h.1, ?_⟩
  have h2 := h.2
  split at h2
  ·exact ⟨iha _ _ h2.2.1, ihb _ _ h2.2.2⟩
  ·exact ⟨iha _ _ h2.1, ihb _ _ h2.2⟩
theorem sg_WR (r : Rt) (d : Int) (h : WR d r) : SgR r := by
 cases r with
 | ex e => exact sg_WE _ _ _ h
 | input => trivial
 | new a => exact sg_WE _ _ _ h
 | call s l => exact fun e he => sg_WE _ _ _ (h.2 e he)
mutual
theorem sg_WS : ∀ (s : Stm) (d : Int), WS d s → SgS s
 | .lt s r, d, h => by unfold WS at h; unfold SgS; exact sg_WR _ _ h.2
 | .set s r, d, h => by unfold WS at h; unfold SgS; exact sg_WR _ _ h.2
 | .put s a b, d, h => by unfold WS at h; unfold SgS; exact ⟨sg_WE _ _ _ h.2.2.1, sg_WE _ _ _ h.2.2.2⟩
 | .doo s l, d, h => by unfold WS at h; unfold SgS; exact sg_WR (.call s l) _ h
 | .print a, d, h => by unfold WS at h; unfold SgS; exact sg_WE _ _ _ h
 | .ret0, d, h => by unfold SgS; trivial
 | .ret1 a, d, h => by unfold WS at h; unfold SgS; exact sg_WE _ _ _ h
 | .ifs c a, d, h => by unfold WS at h; unfold SgS; exact ⟨sg_WE _ _ _ h.1, sg_WB _ _ h.2.2⟩
 | .ifelse c a b, d, h => by unfold WS at h; unfold SgS; exact ⟨sg_WE _ _ _ h.1, sg_WB _ _ h.2.2.1, sg_WB _ _ h.2.2.2⟩
 | .whil c a, d, h => by unfold WS at h; unfold SgS; exact ⟨sg_WE _ _ _ h.1, sg_WB _ _ h.2.2⟩
theorem sg_WB : ∀ (b : Bl) (d : Int), WB d b → SgB b
 | .nil, d, h => by unfold SgB; trivial
 | .cons s b, d, h => by unfold WB at h; unfold SgB; exact ⟨sg_WS _ _ h.1, sg_WB _ _ h.2⟩
end
theorem body_T : ∀ (l : List (Fnc × Bl)) (b : Nat), BodyOK l b → (∀ p ∈ l, SgB p.2 ∧ p.1.ps.length ≤ 900) → BodyT l b
 | [], b, h, hw => trivial
 | p :: l, b, h, hw => ⟨h.1, (hw p (List.mem_cons_self ..)).1, (hw p (List.mem_cons_self ..)).2, body_T l _ h.2 (fun q hq => hw q (List.mem_cons_of_mem _ hq))⟩
/-- A tree that is small enough. -/
structure FitS (nd : List Nd) (fs : List Fnc) : Prop where
 nds : nd.length ≤ 300
 fns : fs.length ≤ 6
 prs : ∀ x ∈ fs, x.ps.length ≤ 3
theorem pckall (nd : List Nd) (fs : List Fnc) (ps : List (Fnc × Bl)) (hW : WT nd fs ps) (hf : FitS nd fs) (A A' : Option Addr) (cc cd : Nat) (w : World) (hT : TreeR 0 w A A' nd fs) (hcp : CapR w A nd) :
  Calls Tryz.prog 15 #[.agg #[.slice A nd.length cc, .slice A' fs.length cd]] w (CkOut nd fs (ckAll fs ps) w) := by
 have hn := hf.nds
 have hk := hf.fns
 unfold ckAll
 cases hd : dupF [] fs with
 | some f => exact pckall_bad nd fs A A' nd.length fs.length cc cd rfl (by omega) w hT _ ((hdZ_all fs).1 f hd) (show (41 : Int) ≠ 0 by decide) _ rfl
 | none =>
  have hz := (hdZ_all fs).2 hd
  rw [main_ok] at hz
  cases hm : mainOK fs with
  | false =>
   rw [hm, if_neg (by decide)] at hz
   exact pckall_bad nd fs A A' nd.length fs.length cc cd rfl (by omega) w hT _ hz (show (44 : Int) ≠ 0 by decide) _ rfl
  | true =>
   rw [hm, if_pos rfl] at hz
   have hlen : nd.length = kT ps := by rw [← flT_len ps 0, ← hW.nds, List.length_map]
   refine pckall_any nd fs A A' nd.length fs.length cc cd rfl rfl (by omega) (by omega) w hT hcp hz (ckT fs ps 0 0) (fun q w0 hqm hqk => ?_) (fun x hx => ?_)
   ·have hF : FsOK fs := ⟨by omega, fun f h => by have := hf.prs f h; omega⟩
    refine fn_T (q := q) (nd := nd) (w0 := w0) hF hqk ps [] 0 (s01 nd.length fs.length nd.length) (by rw [List.nil_append]; exact hW.fns) (body_T ps 0 hW.bod (fun p hp => ⟨sg_WB _ _ (hW.ok p hp).2.2.2, by have := hf.prs p.1 (by rw [hW.fns]; exact List.mem_map_of_mem hp); omega⟩)) ⟨[], [], by rw [hW.nds]; simp, rfl⟩ ?_ ?_ (by omega) |> fun ⟨r, h1, h2⟩ => ⟨r, by rw [show fs.length = ps.length by rw [hW.fns, List.length_map]] at *; exact h1, h2⟩
    ·refine ⟨by rw [hqm]; exact List.length_replicate, by rw [hqm]; show (List.replicate nd.length (-1 : Int) ++ List.replicate (nd.length - nd.length) 0).length = _; simp, by rw [hqm]; exact List.length_replicate, by rw [hqk]; exact List.length_replicate, by omega, fun j h1 h2 => ?_, fun j h1 h2 => ?_, Nat.zero_le _⟩
     ·show (List.replicate nd.length (0 : Int))[j]? = _
      rw [List.getElem?_replicate, if_pos (by omega)]
     ·show (List.replicate nd.length (-1 : Int) ++ List.replicate (nd.length - nd.length) 0)[j]? = _
      rw [List.getElem?_append_left (by rw [List.length_replicate]; omega), List.getElem?_replicate, if_pos (by omega)]
    ·intro j h1 h2
     show (List.replicate fs.length (0 : Int))[j]? = _
     rw [List.getElem?_replicate, if_pos (by omega)]
   ·obtain ⟨h1, h2⟩ := ckT_len ps 0 0 x hx
    exact ⟨by rw [h1, hW.fns, List.length_map], by rw [h2, hlen]⟩
end Go.Proofs.YtbhpnioggpgbhaaGreatDoor

namespace Go.Proofs.YtbhpnioggpgbhaaGreatDoor
open Go Go.RowKit Go.Shelf
set_option linter.unusedVariables false
set_option linter.unusedSimpArgs false
/-- What is refused bears an error. -/
theorem errs_ne (N : Nat) (src : List UInt8) (p er : Nat) (h : allP N src = some (.inl (p, er))) : er ≠ 0 := by
 unfold allP at h
 split at h
 ·cases h; decide
 split at h
 ·rename_i pe hl
  have h1 := Option.some.inj h
  have h2 : pe = (p, er) := Sum.inl.inj h1
  rw [h2] at hl
  have := (lexL_cut src 0 p er hl).2.2.2
  omega
 ·rename_i hn
  cases hr : fnsR src (lexL src 0).1 N N [] ⟨0, 0, 0, [], 0⟩ with
  | none => rw [hr] at h; cases h
  | some r =>
   rw [hr] at h
   obtain ⟨l, s⟩ := r
   have h1 : treeP l s = .inl (p, er) := Option.some.inj h
   unfold treeP at h1
   split at h1
   ·split at h1
    ·cases h1; decide
    ·cases h1
   ·cases h1
    assumption
theorem fits_of {N : Nat} {src : List UInt8} {nd : List Nd} {fs : List Fnc} (h : allP N src = some (.inr (nd, fs))) : FitS nd fs := by
 unfold allP at h
 split at h
 ·cases h
 split at h
 ·cases h
 ·rename_i hn
  cases hr : fnsR src (lexL src 0).1 N N [] ⟨0, 0, 0, [], 0⟩ with
  | none => rw [hr] at h; cases h
  | some r =>
   rw [hr] at h
   obtain ⟨l, s⟩ := r
   have h1 : treeP l s = .inr (nd, fs) := Option.some.inj h
   unfold treeP at h1
   split at h1
   ·split at h1
    ·cases h1
    ·rename_i hq
     cases h1
     simp only [Bool.or_eq_true, decide_eq_true_eq, List.any_eq_true, not_or, not_exists, not_and] at hq
     exact ⟨by omega, by omega, fun x hx => by have := hq.2 x hx; omega⟩
   ·cases h1
/-- Where an error stands. -/
def EPos {α : Type} (lo hi : Nat) (m : CR α) : Prop := ∀ z, m = .error z → (lo : Int) ≤ z.1 ∧ z.1 < (hi : Int) ∧ 4 ≤ z.2 ∧ z.2 ≤ 43
theorem EPos.ok {α : Type} {lo hi : Nat} (a : α) : EPos lo hi (.ok a : CR α) := fun z h => by cases h
theorem EPos.err {α : Type} {lo hi : Nat} (n e : Nat) (h1 : lo ≤ n) (h2 : n < hi) (h3 : 4 ≤ e) (h4 : e ≤ 43) : EPos lo hi (.error ((n : Int), e) : CR α) := fun z h => by
 cases h
 exact ⟨by show (lo : Int) ≤ (n : Int); omega, by show (n : Int) < (hi : Int); omega, h3, h4⟩
theorem EPos.bind {α β : Type} {lo hi : Nat} {m : CR α} {f : α → CR β} (h : EPos lo hi m) (g : ∀ a, m = .ok a → EPos lo hi (f a)) : EPos lo hi (m.bind f) := by
 cases m with
 | error z => exact fun y e => h y (by cases e; rfl)
 | ok a => exact g a rfl
theorem EPos.wide {α : Type} {lo hi lo' hi' : Nat} {m : CR α} (h : EPos lo hi m) (h1 : lo' ≤ lo) (h2 : hi ≤ hi') : EPos lo' hi' m := fun z e => by
 obtain ⟨a, b, c⟩ := h z e
 exact ⟨by omega, by omega, c⟩
theorem EPos.need {lo hi : Nat} {fn : Int} {c : Prop} [Decidable c] {n : Nat} {t s : Int} {l : List Tri} (h1 : lo ≤ n) (h2 : n < hi) : EPos lo hi (needT fn c n t l s) := by
 unfold needT
 split
 ·exact EPos.ok _
 ·exact EPos.err n 42 h1 h2 (by decide) (by decide)
theorem ep_E (fn : Int) (V : List Vb) : ∀ (e : Ex) (b : Nat), EPos b (b + kE e + 1) (ckE fn V e b) := by
 intro e
 induction e with
 | int n => exact fun b => EPos.ok _
 | bool n => exact fun b => EPos.ok _
 | text n => exact fun b => EPos.ok _
 | var x =>
  intro b
  unfold ckE
  split
  ·exact EPos.err b 40 (Nat.le_refl _) (by omega) (by decide) (by decide)
  ·exact EPos.ok _
 | index x a ih =>
  intro b
  simp only [ckE, kE]
  split
  ·exact EPos.err _ 40 (by omega) (by omega) (by decide) (by decide)
  ·exact ((ih b).wide (Nat.le_refl _) (by omega)).bind fun r _ => EPos.need (by omega) (by omega)
 | len a ih => intro b; simp only [ckE, kE]; exact ((ih b).wide (Nat.le_refl _) (by omega)).bind fun r _ => EPos.need (by omega) (by omega)
 | neg a ih => intro b; simp only [ckE, kE]; exact ((ih b).wide (Nat.le_refl _) (by omega)).bind fun r _ => EPos.need (by omega) (by omega)
 | not a ih => intro b; simp only [ckE, kE]; exact ((ih b).wide (Nat.le_refl _) (by omega)).bind fun r _ => EPos.need (by omega) (by omega)
 | bin x a c iha ihc =>
  intro b
  simp only [ckE, kE]
  refine ((iha b).wide (Nat.le_refl _) (by omega)).bind fun r _ => ((ihc _).wide (by omega) (by omega)).bind fun u _ => ?_
  split
  ·exact EPos.err _ 42 (by omega) (by omega) (by decide) (by decide)
  ·exact EPos.ok _
theorem ep_Es (fn : Int) (V : List Vb) : ∀ (l : List Ex) (b : Nat), EPos b (b + kEs l) (ckEs fn V l b)
 | [], b => EPos.ok _
 | e :: l, b => by
  simp only [ckEs, kEs]
  exact ((ep_E fn V e b).wide (Nat.le_refl _) (by omega)).bind fun r _ => ((ep_Es fn V l _).wide (by omega) (by omega)).bind fun u _ => EPos.ok _
theorem ep_R (fs : List Fnc) (fn : Int) (V : List Vb) (r : Rt) (b : Nat) : EPos b (b + kR r + 1) (ckR fs fn V r b) := by
 cases r with
 | ex e => exact ep_E fn V e b
 | input => exact EPos.ok _
 | new a => simp only [ckR, kR]; exact ((ep_E fn V a b).wide (Nat.le_refl _) (by omega)).bind fun r _ => EPos.need (by omega) (by omega)
 | call x l =>
  simp only [ckR, kR]
  split
  ·exact EPos.err _ 40 (by omega) (by omega) (by decide) (by decide)
  ·refine ((ep_Es fn V l b).wide (Nat.le_refl _) (by omega)).bind fun r _ => ?_
   split
   ·exact EPos.err _ 43 (by omega) (by omega) (by decide) (by decide)
   ·split
    ·exact EPos.ok _
    ·exact EPos.err _ 42 (by omega) (by omega) (by decide) (by decide)
mutual
theorem ep_S (fs : List Fnc) (fn ret : Int) : ∀ (s : Stm) (V : List Vb) (n b : Nat), EPos b (b + kS s + 1) (ckS fs fn ret s V n b)
 | .lt x r, V, n, b => by
  simp only [ckS, kS]
  refine ((ep_R fs fn V r b).wide (Nat.le_refl _) (by omega)).bind fun q _ => ?_
  split
  ·exact EPos.err _ 42 (by omega) (by omega) (by decide) (by decide)
  split
  ·exact EPos.err _ 41 (by omega) (by omega) (by decide) (by decide)
  split
  ·exact EPos.err _ 4 (by omega) (by omega) (by decide) (by decide)
  ·exact EPos.ok _
 | .set x r, V, n, b => by
  simp only [ckS, kS]
  split
  ·exact EPos.err _ 40 (by omega) (by omega) (by decide) (by decide)
  refine ((ep_R fs fn V r b).wide (Nat.le_refl _) (by omega)).bind fun q _ => ?_
  split
  ·exact EPos.ok _
  ·exact EPos.err _ 42 (by omega) (by omega) (by decide) (by decide)
 | .put x a c, V, n, b => by
  simp only [ckS, kS]
  split
  ·exact EPos.err _ 40 (by omega) (by omega) (by decide) (by decide)
  refine ((ep_E fn V a b).wide (Nat.le_refl _) (by omega)).bind fun q _ => ((ep_E fn V c _).wide (by omega) (by omega)).bind fun u _ => ?_
  split
  ·exact EPos.ok _
  ·exact EPos.err _ 42 (by omega) (by omega) (by decide) (by decide)
 | .doo x l, V, n, b => by
  unfold ckS kS
  exact ((ep_R fs fn V (.call x l) b).wide (Nat.le_refl _) (by show b + kEs l + 1 ≤ _; omega)).bind fun q _ => EPos.ok _
 | .print a, V, n, b => by
  simp only [ckS, kS]
  refine ((ep_E fn V a b).wide (Nat.le_refl _) (by omega)).bind fun q _ => ?_
  split
  ·exact EPos.ok _
  ·exact EPos.err _ 42 (by omega) (by omega) (by decide) (by decide)
 | .ret0, V, n, b => by
  simp only [ckS, kS]
  split
  ·exact EPos.ok _
  ·exact EPos.err _ 43 (by omega) (by omega) (by decide) (by decide)
 | .ret1 a, V, n, b => by
  simp only [ckS, kS]
  split
  ·exact EPos.err _ 43 (by omega) (by omega) (by decide) (by decide)
  refine ((ep_E fn V a b).wide (Nat.le_refl _) (by omega)).bind fun q _ => ?_
  split
  ·exact EPos.ok _
  ·exact EPos.err _ 42 (by omega) (by omega) (by decide) (by decide)
 | .ifs c a, V, n, b => by
  simp only [ckS, kS]
  refine ((ep_E fn V c b).wide (Nat.le_refl _) (by omega)).bind fun q _ => ?_
  split
  ·exact ((ep_B fs fn ret a V n _).wide (by omega) (by omega)).bind fun r _ => EPos.ok _
  ·exact EPos.err _ 42 (by omega) (by omega) (by decide) (by decide)
 | .ifelse c a d, V, n, b => by
  simp only [ckS, kS]
  refine ((ep_E fn V c b).wide (Nat.le_refl _) (by omega)).bind fun q _ => ?_
  split
  ·exact ((ep_B fs fn ret a V n _).wide (by omega) (by omega)).bind fun r _ => ((ep_B fs fn ret d V r.n _).wide (by omega) (by omega)).bind fun u _ => EPos.ok _
  ·exact EPos.err _ 42 (by omega) (by omega) (by decide) (by decide)
 | .whil c a, V, n, b => by
  simp only [ckS, kS]
  refine ((ep_E fn V c b).wide (Nat.le_refl _) (by omega)).bind fun q _ => ?_
  split
  ·exact ((ep_B fs fn ret a V n _).wide (by omega) (by omega)).bind fun r _ => EPos.ok _
  ·exact EPos.err _ 42 (by omega) (by omega) (by decide) (by decide)
theorem ep_B (fs : List Fnc) (fn ret : Int) : ∀ (l : Bl) (V : List Vb) (n b : Nat), EPos b (b + kB l) (ckB fs fn ret l V n b)
 | .nil, V, n, b => by unfold ckB; exact EPos.ok _
 | .cons s l, V, n, b => by
  unfold ckB kB
  exact ((ep_S fs fn ret s V n b).wide (Nat.le_refl _) (by omega)).bind fun q _ => ((ep_B fs fn ret l q.v q.n _).wide (by omega) (by omega)).bind fun r _ => EPos.ok _
end
theorem ep_Ps (body : Nat) : ∀ (l : List (List UInt8 × Int)) (V : List Vb), EPos body (body + 1) (ckPs (body : Int) l V)
 | [], V => EPos.ok _
 | p :: l, V => by
  unfold ckPs
  split
  ·exact EPos.err _ 41 (Nat.le_refl _) (by omega) (by decide) (by decide)
  ·exact ep_Ps body l _
theorem ep_T (fs : List Fnc) : ∀ (l : List (Fnc × Bl)) (i b : Nat), BodyOK l b → EPos b (b + kT l) (ckT fs l i b)
 | [], i, b, h => EPos.ok _
 | p :: l, i, b, h => by
  unfold ckT kT
  rw [h.1]
  exact ((ep_Ps (b + kB p.2) p.1.ps []).wide (by omega) (by omega)).bind fun V _ => ((ep_B fs i p.1.ret p.2 V V.length b).wide (Nat.le_refl _) (by omega)).bind fun q _ => ((ep_T fs l (i + 1) _ h.2).wide (by omega) (by omega)).bind fun r _ => EPos.ok _
theorem body_in : ∀ (l : List (Fnc × Bl)) (b : Nat), BodyOK l b → ∀ f ∈ l.map Prod.fst, (b : Int) ≤ f.body ∧ f.body < ((b + kT l : Nat) : Int)
 | [], b, h, f, hf => by cases hf
 | p :: l, b, h, f, hf => by
  unfold kT
  rcases List.mem_cons.1 hf with rfl | hf
  ·rw [h.1]; omega
  ·have := body_in l _ h.2 f hf; omega
theorem dup_mem : ∀ (l pre : List Fnc) (f : Fnc), dupF pre l = some f → f ∈ l
 | [], pre, f, h => by cases h
 | g :: l, pre, f, h => by
  unfold dupF at h
  split at h
  ·rw [Option.some.inj h]; exact List.mem_cons_self ..
  ·exact List.mem_cons_of_mem _ (dup_mem l _ f h)
/-- An error of a program stands at a node, but main's. -/
theorem ck_err {nd : List Nd} {fs : List Fnc} {ps : List (Fnc × Bl)} (hW : WT nd fs ps) {z : Int × Nat} (h : ckAll fs ps = .error z) : (z = (0, 44)) ∨ (0 ≤ z.1 ∧ z.1 < (nd.length : Int) ∧ 4 ≤ z.2 ∧ z.2 ≤ 43) := by
 have hlen : nd.length = kT ps := by rw [← flT_len ps 0, ← hW.nds, List.length_map]
 unfold ckAll at h
 split at h
 ·rename_i f hf
  have := body_in ps 0 hW.bod f (by rw [← hW.fns]; exact dup_mem _ _ _ hf)
  cases h
  exact .inr ⟨by show (0 : Int) ≤ f.body; omega, by show f.body < _; omega, by show 4 ≤ 41; decide, by show 41 ≤ 43; decide⟩
 ·split at h
  ·obtain ⟨a, b, c, d⟩ := ep_T fs ps 0 0 hW.bod z h
   exact .inr ⟨by omega, by omega, c, d⟩
  ·cases h; exact .inl rfl
def lineOf (nd : List Nd) (i : Int) : Int := match nd[i.toNat]? with | some n => n.ln | none => 0
/-- What a source is told as. -/
def SrcOut (nd : List Nd) (fs : List Fnc) (r : CR (List Nat × List Tri)) (e : Ending) (w' : World) : Prop := match r with
 | .ok x => ∃ v, e = .returned (.tuple #[v, .int .i64 0, .int .i64 0]) ∧ PrgR w' v nd fs x.2 x.1
 | .error z => e = .returned (.tuple #[noPrg, .int .i64 (if z.2 = 44 then 0 else lineOf nd z.1), .int .i64 (z.2 : Int)])
/-- A block of slices alone. -/
def SlB (w : World) (P : Nat) : Prop := ∀ j u, w.cell? ⟨P, j, none⟩ = some u → ∃ a n c, u = .slice a n c
theorem SlB.keeps {w w' : World} {P : Nat} (h : SlB w P) (hP : P < w.heap.size) (k : Keeps (fun _ => False) w w') : SlB w' P := fun j u hu => h j u (by rw [← k.cell hP (fun h => h)]; exact hu)
theorem SlB.new (w : World) (t : TypeId) : SlB (w.alloc (.cells #[.slice none 0 0, .slice none 0 0, .slice none 0 0, .slice none 0 0, .slice none 0 0, .slice none 0 0] t)) w.heap.size := fun j u hu => by
 rw [World.cell?_alloc_mark] at hu
 match j, hu with
 | 0, hu => exact ⟨_, _, _, (Option.some.inj hu).symm⟩
 | 1, hu => exact ⟨_, _, _, (Option.some.inj hu).symm⟩
 | 2, hu => exact ⟨_, _, _, (Option.some.inj hu).symm⟩
 | 3, hu => exact ⟨_, _, _, (Option.some.inj hu).symm⟩
 | 4, hu => exact ⟨_, _, _, (Option.some.inj hu).symm⟩
 | 5, hu => exact ⟨_, _, _, (Option.some.inj hu).symm⟩
 | j + 6, hu => simp at hu
theorem RdG.keepS {w w' : World} {P : Nat} {a : Option Addr} {xs : List Value} (h : RdG w a xs) (sl : SlB w P) (k : Keeps (fun b => b = P) w w') (hx : ∀ u, xs[0]? = some u → ∀ a n c, u ≠ .slice a n c) : RdG w' a xs := h.keep k (fun h0 b off e hb => by
 obtain ⟨b2, off2, e2, hc⟩ := h h0
 rw [e] at e2
 cases e2
 have hb : b = P := hb
 subst hb
 have hg : xs[0]? = some xs[0] := List.getElem?_eq_getElem h0
 obtain ⟨a2, n2, c2, e3⟩ := sl _ _ (hc 0 _ hg)
 exact hx _ hg _ _ _ e3)
theorem RdI.keepS {w w' : World} {P : Nat} {a : Option Addr} {xs : List Int} (h : RdI w a xs) (sl : SlB w P) (k : Keeps (fun b => b = P) w w') : RdI w' a xs := h.keep k (fun h0 b off e hb => by
 obtain ⟨b2, off2, e2, hc⟩ := h h0
 rw [e] at e2
 cases e2
 have hb : b = P := hb
 subst hb
 obtain ⟨a2, n2, c2, e3⟩ := sl _ _ (hc 0 h0)
 cases e3)
theorem TreeR.keepS {B : Nat} {w w' : World} {P : Nat} {A A' : Option Addr} {nd : List Nd} {fs : List Fnc} (h : TreeR B w A A' nd fs) (sl : SlB w P) (k : Keeps (fun b => b = P) w w') : TreeR B w' A A' nd fs := by
 obtain ⟨⟨L, e1, h1, h2⟩, ⟨M, e2, h3, h4⟩⟩ := h
 refine ⟨⟨L, e1, h1.keepS sl k ?_, fun x hx => (h2 x hx).keepS sl k⟩, ⟨M, e2, h3.keepS sl k ?_, fun x hx => (h4 x hx).keepS sl k ?_⟩⟩
 ·intro u hu a n c e
  cases L with
  | nil => cases hu
  | cons x L => cases (Option.some.inj hu).trans e
 ·intro u hu a n c e
  cases M with
  | nil => cases hu
  | cons x M => cases (Option.some.inj hu).trans e
 ·intro u hu a n c e
  cases hp : x.d.ps with
  | nil => rw [hp] at hu; cases hu
  | cons p l => rw [hp] at hu; cases (Option.some.inj hu).trans e
theorem CapR.keepS {B : Nat} {w w' : World} {P : Nat} {A A' : Option Addr} {nd : List Nd} {fs : List Fnc} (h : CapR w A nd) (ht : TreeR B w A A' nd fs) (sl : SlB w P) (k : Keeps (fun b => b = P) w w') : CapR w' A nd := fun i hi => by
 obtain ⟨b, off, a, c, e, h1, h2⟩ := h i hi
 obtain ⟨b2, off2, e2, hc⟩ := ht.nodeAt (by omega)
 obtain ⟨_, _, c0, _⟩ := hc i hi
 rw [e] at e2
 cases e2
 refine ⟨b, off, a, c, e, (k.cell (cell_ltk h1) (fun hb => ?_)).trans h1, h2⟩
 have hb : b = P := hb
 rw [hb] at c0
 obtain ⟨_, _, _, e3⟩ := sl _ _ c0
 cases e3
def SrcRes (res : (Nat × Nat) ⊕ (List Nd × List Fnc)) (ps : List (Fnc × Bl)) (e : Ending) (w' : World) : Prop := match res with
 | .inl pe => e = .returned (.tuple #[noPrg, .int .i64 (pe.1 : Int), .int .i64 (pe.2 : Int)])
 | .inr t => SrcOut t.1 t.2 (ckAll t.2 ps) e w'
set_option maxRecDepth 100000 in
set_option maxHeartbeats 16000000 in
theorem psrc_any (s : ByteArray) (hs : s.size ≤ 1000) (N : Nat) (hN : N ≤ 100000) (res : (Nat × Nat) ⊕ (List Nd × List Fnc)) (h : allP N s.data.toList = some res) (ps : List (Fnc × Bl)) (hW : ∀ nd fs, res = .inr (nd, fs) → WT nd fs ps) (w : World) (he : ErrW w) :
  Calls Tryz.prog 11 #[.string s] w fun e w' => SrcRes res ps e w' ∧ Keeps (fun _ => False) w w' := by
 have HRES := Lib.hid h
 have HWT := Lib.hid hW
 have AC : Hid (∀ w1, Keeps (fun _ => False) w w1 → Calls Tryz.prog 22 #[.string s] w1 fun e w' => TreeE 0 res e w' ∧ Keeps (fun _ => False) w1 w') := Lib.hid (fun w1 k => pall_any s hs N hN res h w1 (he.keep k))
 clear h hW he hs
 go_enter Tryz.func11, Tryz.ntmps11
 go_upto_region 1 with fail
 obtain ⟨P2, hP2⟩ : ∃ X, X = w.heap.size := ⟨_, rfl⟩
 obtain ⟨w1, hw1⟩ : ∃ w1, w1 = w.alloc (.cells #[.slice none 0 0, .slice none 0 0, .slice none 0 0, .slice none 0 0, .slice none 0 0, .slice none 0 0] 30) := ⟨_, rfl⟩
 have ka := Keeps.one w (.cells #[.slice none 0 0, .slice none 0 0, .slice none 0 0, .slice none 0 0, .slice none 0 0, .slice none 0 0] 30)
 have L2 : Loc w1 (fun _ => False) P2 [.slice none 0 0, .slice none 0 0, .slice none 0 0, .slice none 0 0, .slice none 0 0, .slice none 0 0] := by rw [hw1, hP2]; exact Loc.new (fun h => h) [.slice none 0 0, .slice none 0 0, .slice none 0 0, .slice none 0 0, .slice none 0 0, .slice none 0 0] 30
 have HSL := Lib.hid (show SlB w1 P2 by rw [hw1, hP2]; exact SlB.new w 30)
 rw [← hP2]
 rw [← hw1] at ka ⊢
 have NC := Lib.hid (AC.out _ ka)
 have K1 := Lib.hid ka
 have HP2 := Lib.hid hP2
 have HL2 := Lib.hid L2
 clear ka hw1 hP2 L2 AC
 go_wp2_with fail
 refine NC.out.mono ?_
 rintro e w3 ⟨hte, k3⟩
 have K3 := Lib.hid (K1.out.trans k3 (fun _ _ h => h))
 have HL3 := Lib.hid (HL2.out.keeps k3)
 have HS3 := Lib.hid (HSL.out.keeps HL2.out.lt k3)
 clear NC k3
 cases res with
 | inl pe =>
  obtain rfl : e = .returned (.tuple #[.agg #[.slice none 0 0, .slice none 0 0], .int .i64 (pe.1 : Int), .int .i64 (pe.2 : Int)]) := hte
  have hne : ((pe.2 : Int) != 0) = true := by have := errs_ne _ _ _ _ HRES.out; simpa using this
  obtain ⟨z1, hz1⟩ : ∃ t, t = (pe.1 : Int) := ⟨_, rfl⟩
  obtain ⟨z2, hz2⟩ : ∃ t, t = (pe.2 : Int) := ⟨_, rfl⟩
  rw [← hz2] at hne
  rw [← hz1, ← hz2]
  have HZ := Lib.hid (And.intro hz1 hz2)
  clear hz1 hz2 HWT
  obtain ⟨w4, hw4⟩ : ∃ w4, w4 = w3.alloc (.cells #[.slice none 0 0, .slice none 0 0] 27) := ⟨_, rfl⟩
  have kb := Keeps.one w3 (.cells #[.slice none 0 0, .slice none 0 0] 27)
  go_upto_region 2 with fail
  rw [← hw4] at kb ⊢
  have K4 := Lib.hid (K3.out.trans kb (fun _ _ h => h))
  have L4 := HL3.out.keeps kb
  have f0 := L4.cells 0 _ rfl
  have g0 := L4.fz 0
  have f1 := L4.cells 1 _ rfl
  have g1 := L4.fz 1
  have f2 := L4.cells 2 _ rfl
  have g2 := L4.fz 2
  have f3 := L4.cells 3 _ rfl
  have g3 := L4.fz 3
  have f4 := L4.cells 4 _ rfl
  have g4 := L4.fz 4
  have f5 := L4.cells 5 _ rfl
  have g5 := L4.fz 5
  have FIN : Hid (∀ w', Keeps (fun b => b = P2) w4 w' → Keeps (fun _ => False) w w') := Lib.hid (fun w' k => kback ((K4.out.mono (T := fun b => w.heap.size ≤ b) (fun _ _ h => h.elim)).trans k (fun x hx e => by have h1 := HP2.out; have e : x = P2 := e; show w.heap.size ≤ x; omega)) rfl)
  clear kb hw4 L4
  go_wp2_with fail
  (try simp only [Exit.inBlock, Exit.then])
  refine bodyPost_ret (v := .tuple #[noPrg, .int .i64 z1, .int .i64 z2]) ?_ rfl ?_
  ·first | (rw [results_cell_tmp3 rfl]; go_simp; done) | (rw [results_cell_tmp3 rfl]; go_simp; rfl)
  ·first | exact ⟨by show _ = _; rw [HZ.out.1, HZ.out.2], FIN.out _ (setL_keeps (P := P2) [.slice none 0 0, .slice none 0 0, .slice none 0 0, .slice none 0 0, .slice none 0 0, .slice none 0 0] 0 w4)⟩ | exact ⟨by show _ = _; rw [HZ.out.1, HZ.out.2], FIN.out _ ((setL_keeps (P := P2) [.slice none 0 0, .slice none 0 0, .slice none 0 0, .slice none 0 0, .slice none 0 0, .slice none 0 0] 0 w4).drew)⟩
 | inr t =>
  obtain ⟨nd, fs⟩ := t
  obtain ⟨A, c, A', c', rfl, hT, hcp⟩ := hte
  have HT := Lib.hid hT
  have HCP := Lib.hid hcp
  clear hT hcp
  obtain ⟨P5, hP5⟩ : ∃ X, X = w3.heap.size := ⟨_, rfl⟩
  obtain ⟨M, hM⟩ : ∃ X, X = nd.length := ⟨_, rfl⟩
  obtain ⟨K, hK⟩ : ∃ X, X = fs.length := ⟨_, rfl⟩
  obtain ⟨w4, hw4⟩ : ∃ w4, w4 = w3.alloc (.cells #[.slice A M c, .slice A' K c'] 27) := ⟨_, rfl⟩
  have kb := Keeps.one w3 (.cells #[.slice A M c, .slice A' K c'] 27)
  have L5 : Loc w4 (fun _ => False) P5 [.slice A M c, .slice A' K c'] := by rw [hw4, hP5]; exact Loc.new (fun h => h) [.slice A M c, .slice A' K c'] 27
  rw [← hM, ← hK]
  have HM := Lib.hid hM
  have HK := Lib.hid hK
  clear hM hK
  go_upto_region 2 with fail
  rw [← hP5]
  rw [← hw4] at kb ⊢
  have K4 := Lib.hid (K3.out.trans kb (fun _ _ h => h))
  have kb0 := Lib.hid kb
  have L4 := Lib.hid (HL3.out.keeps kb)
  have HL5 := Lib.hid L5
  have a0 := L5.cells 0 _ rfl
  have a1 := L5.cells 1 _ rfl
  have HW := Lib.hid (HWT.out nd fs rfl)
  have HT4 := Lib.hid (HT.out.keep kb)
  have HCP4 := Lib.hid (HCP.out.keep kb)
  have CC := Lib.hid (pckall nd fs ps HW.out (fits_of HRES.out) A A' c c' w4 HT4.out HCP4.out)
  rw [← HM.out, ← HK.out] at CC
  have HN5 : Hid (¬ P5 = P2) := Lib.hid (by have := HL3.out.lt; rw [hP5]; omega)
  clear kb hw4 L5 hP5 HWT
  go_wp2_with fail
  refine CC.out.mono ?_
  rintro e w5 ⟨k5, hr⟩
  have K5 := Lib.hid (K4.out.trans k5 (fun _ _ h => h))
  have L25 := Lib.hid (L4.out.keeps k5)
  have L55 := Lib.hid (HL5.out.keeps k5)
  have HT5 := Lib.hid (HT4.out.keep k5)
  have HS5 := Lib.hid ((HS3.out.keeps HL3.out.lt kb0.out).keeps L4.out.lt k5)
  clear CC k5 a0 a1
  cases hck : ckAll fs ps with
  | ok x =>
   rw [hck] at hr
   obtain ⟨v, rfl, B, B', d, d', T, S, F, Z, cT, cS, cF, cZ, rfl, hT6, hcp6, hr1, hr2, hr3, hr4⟩ := hr
   have HCP6 := Lib.hid hcp6
   clear hcp6
   have HCK := Lib.hid hck
   have HR := Lib.hid (And.intro hT6 (And.intro hr1 (And.intro hr2 (And.intro hr3 hr4))))
   clear hck hT6 hr1 hr2 hr3 hr4
   rw [← HM.out, ← HK.out]
   obtain ⟨m, hm⟩ : ∃ X, X = x.2.length := ⟨_, rfl⟩
   obtain ⟨kz, hkz⟩ : ∃ X, X = x.1.length := ⟨_, rfl⟩
   rw [← hm, ← hkz]
   have HMM := Lib.hid (And.intro hm hkz)
   clear hm hkz
   obtain ⟨P8, hP8⟩ : ∃ X, X = w5.heap.size := ⟨_, rfl⟩
   obtain ⟨w6, hw6⟩ : ∃ w6, w6 = w5.alloc (.cells #[.slice B M d, .slice B' K d', .slice T m cT, .slice S m cS, .slice F m cF, .slice Z kz cZ] 30) := ⟨_, rfl⟩
   have kb := Keeps.one w5 (.cells #[.slice B M d, .slice B' K d', .slice T m cT, .slice S m cS, .slice F m cF, .slice Z kz cZ] 30)
   have L8 : Loc w6 (fun _ => False) P8 [.slice B M d, .slice B' K d', .slice T m cT, .slice S m cS, .slice F m cF, .slice Z kz cZ] := by rw [hw6, hP8]; exact Loc.new (fun h => h) [.slice B M d, .slice B' K d', .slice T m cT, .slice S m cS, .slice F m cF, .slice Z kz cZ] 30
   go_upto_region 5 with fail
   rw [← hP8]
   rw [← hw6] at kb ⊢
   have K6 := Lib.hid (K5.out.trans kb (fun _ _ h => h))
   have L26 := L25.out.keeps kb
   have f0 := L26.cells 0 _ rfl
   have g0 := L26.fz 0
   have f1 := L26.cells 1 _ rfl
   have g1 := L26.fz 1
   have f2 := L26.cells 2 _ rfl
   have g2 := L26.fz 2
   have f3 := L26.cells 3 _ rfl
   have g3 := L26.fz 3
   have f4 := L26.cells 4 _ rfl
   have g4 := L26.fz 4
   have f5 := L26.cells 5 _ rfl
   have g5 := L26.fz 5
   have y0 := L8.cells 0 _ rfl
   have y1 := L8.cells 1 _ rfl
   have y2 := L8.cells 2 _ rfl
   have y3 := L8.cells 3 _ rfl
   have y4 := L8.cells 4 _ rfl
   have y5 := L8.cells 5 _ rfl
   have hlt2 := L25.out.lt
   have hne : ¬ P2 = P8 := fun e => by rw [e, hP8] at hlt2; omega
   have hne2 : ¬ P8 = P2 := fun e => hne e.symm
   have FIN : Hid (∀ w', Keeps (fun b => b = P2) w6 w' → Keeps (fun _ => False) w w' ∧ SrcRes (.inr (nd, fs)) ps (.returned (.tuple #[.agg #[.slice B M d, .slice B' K d', .slice T m cT, .slice S m cS, .slice F m cF, .slice Z kz cZ], .int .i64 0, .int .i64 0])) w') := Lib.hid (fun w' k => ⟨kback ((K6.out.mono (T := fun b => w.heap.size ≤ b) (fun _ _ h => h.elim)).trans k (fun x hx e => by have h1 := HP2.out; have e : x = P2 := e; show w.heap.size ≤ x; omega)) rfl, by
    show SrcOut nd fs (ckAll fs ps) _ _
    rw [HCK.out]
    have sl := HS5.out.keeps L25.out.lt kb
    exact ⟨_, rfl, B, B', d, d', T, S, F, Z, cT, cS, cF, cZ, by rw [HM.out, HK.out, HMM.out.1, HMM.out.2], (HR.out.1.keep kb).keepS sl k, (HCP6.out.keep kb).keepS (HR.out.1.keep kb) sl k, (HR.out.2.1.keep kb (fun _ _ _ _ h => h)).keepS sl k, (HR.out.2.2.1.keep kb (fun _ _ _ _ h => h)).keepS sl k, (HR.out.2.2.2.1.keep kb (fun _ _ _ _ h => h)).keepS sl k, (HR.out.2.2.2.2.keep kb (fun _ _ _ _ h => h)).keepS sl k⟩⟩)
   clear kb hw6 hP8 L8 L26 hlt2
   go_wp2_with fail
   (try simp only [Exit.inBlock, Exit.then])
   refine bodyPost_ret (v := .tuple #[.agg #[.slice B M d, .slice B' K d', .slice T m cT, .slice S m cS, .slice F m cF, .slice Z kz cZ], .int .i64 0, .int .i64 0]) ?_ rfl ?_
   ·first | (rw [results_cell_tmp3 rfl]; go_simp; done) | (rw [results_cell_tmp3 rfl]; go_simp; rfl)
   ·have hf := FIN.out _ (setL_keeps (P := P2) [.slice B M d, .slice B' K d', .slice T m cT, .slice S m cS, .slice F m cF, .slice Z kz cZ] 0 w6)
    exact ⟨hf.2, hf.1⟩
  | error z =>
   rw [hck] at hr
   obtain rfl := hr
   have HCK := Lib.hid hck
   have HE := Lib.hid (ck_err HW.out hck)
   clear hck
   obtain ⟨z1, z2⟩ := z
   obtain ⟨ze, hze⟩ : ∃ t, t = (z2 : Int) := ⟨_, rfl⟩
   have hne : (ze == 0) = false := by
    have h := HE.out
    have : z2 ≠ 0 := by
     rcases h with h | h
     ·cases h; decide
     ·have h := h.2.2.1; intro e; subst e; exact absurd h (show ¬ (4 ≤ 0) by decide)
    rw [hze]
    simpa using this
   simp only [noPrg]
   rw [← hze]
   have HZE := Lib.hid hze
   obtain ⟨P8, hP8⟩ : ∃ X, X = w5.heap.size := ⟨_, rfl⟩
   obtain ⟨w6, hw6⟩ : ∃ w6, w6 = w5.alloc (.cells #[.slice none 0 0, .slice none 0 0, .slice none 0 0, .slice none 0 0, .slice none 0 0, .slice none 0 0] 30) := ⟨_, rfl⟩
   have kb := Keeps.one w5 (.cells #[.slice none 0 0, .slice none 0 0, .slice none 0 0, .slice none 0 0, .slice none 0 0, .slice none 0 0] 30)
   clear hze
   go_upto_region 5 with fail
   rw [← hP8]
   rw [← hw6] at kb ⊢
   have K6 := Lib.hid (K5.out.trans kb (fun _ _ h => h))
   have L26 := L25.out.keeps kb
   have L56 := Lib.hid (L55.out.keeps kb)
   have HS6 := Lib.hid (HS5.out.keeps L25.out.lt kb)
   have HT6 := Lib.hid (HT5.out.keep kb)
   have FIN : Hid (∀ w', Keeps (fun b => b = P2) w6 w' → Keeps (fun _ => False) w w') := Lib.hid (fun w' k => kback ((K6.out.mono (T := fun b => w.heap.size ≤ b) (fun _ _ h => h.elim)).trans k (fun x hx e => by have h1 := HP2.out; have e : x = P2 := e; show w.heap.size ≤ x; omega)) rfl)
   have f0 := L26.cells 0 _ rfl
   have g0 := L26.fz 0
   have f1 := L26.cells 1 _ rfl
   have g1 := L26.fz 1
   have f2 := L26.cells 2 _ rfl
   have g2 := L26.fz 2
   have f3 := L26.cells 3 _ rfl
   have g3 := L26.fz 3
   have f4 := L26.cells 4 _ rfl
   have g4 := L26.fz 4
   have f5 := L26.cells 5 _ rfl
   have g5 := L26.fz 5
   clear kb hw6 hP8 L26
   by_cases h44 : z2 = 44
   ·have hb : (ze == 44) = true := by rw [HZE.out, h44]; rfl
    have HPF : Hid (∀ w', SrcRes (.inr (nd, fs)) ps (.returned (.tuple #[noPrg, .int .i64 0, .int .i64 ze])) w') := Lib.hid (fun w' => by
     show SrcOut nd fs (ckAll fs ps) _ _
     rw [HCK.out]
     show _ = _
     rw [if_pos h44, HZE.out])
    clear h44
    go_wp2_with fail
    (try simp only [Exit.inBlock, Exit.then])
    refine bodyPost_ret (v := .tuple #[noPrg, .int .i64 0, .int .i64 ze]) ?_ rfl ?_
    ·first | (rw [results_cell_tmp3 rfl]; go_simp; done) | (rw [results_cell_tmp3 rfl]; go_simp; rfl)
    ·first | exact ⟨HPF.out _, FIN.out _ (setL_keeps (P := P2) [.slice none 0 0, .slice none 0 0, .slice none 0 0, .slice none 0 0, .slice none 0 0, .slice none 0 0] 0 w6)⟩ | exact ⟨HPF.out _, FIN.out _ ((setL_keeps (P := P2) [.slice none 0 0, .slice none 0 0, .slice none 0 0, .slice none 0 0, .slice none 0 0, .slice none 0 0] 0 w6).drew)⟩
   ·have hb : (ze == 44) = false := by rw [HZE.out]; simp; omega
    have hz := HE.out.resolve_left (fun h => by cases h; exact h44 rfl)
    obtain ⟨j, hj⟩ : ∃ j : Nat, z1 = (j : Int) := ⟨z1.toNat, by have h := hz.1; have h : (0 : Int) ≤ z1 := h; omega⟩
    subst hj
    have hjl : j < nd.length := by have h := hz.2.1; have h : (j : Int) < (nd.length : Int) := h; omega
    obtain ⟨nb, no, hA, hc⟩ := HT6.out.nodeAt (by omega)
    obtain ⟨a, cc, n0, n1, n2, n3, n4, n5⟩ := hc j hjl
    obtain ⟨ln, hln⟩ : ∃ t, t = (nd[j]).ln := ⟨_, rfl⟩
    rw [← hln] at n1
    have HPF : Hid (∀ w', SrcRes (.inr (nd, fs)) ps (.returned (.tuple #[noPrg, .int .i64 ln, .int .i64 ze])) w') := Lib.hid (fun w' => by
     show SrcOut nd fs (ckAll fs ps) _ _
     rw [HCK.out]
     show _ = _
     rw [if_neg h44, HZE.out, hln]
     unfold lineOf
     rw [Int.toNat_natCast, List.getElem?_eq_getElem hjl])
    have hjM : (j : Int) < (M : Int) := by rw [HM.out]; omega
    have hj0 : (0 : Int) ≤ (j : Int) := by omega
    subst hA
    have a0 := L56.out.cells 0 _ rfl
    have m1 := HN5.out
    have m2 : ¬ P2 = P5 := fun e => m1 e.symm
    have m3 : ¬ nb = P2 := fun e => by
     rw [e] at n1
     obtain ⟨_, _, _, e3⟩ := HS6.out _ _ n1
     cases e3
    have m4 : ¬ P2 = nb := fun e => m3 e.symm
    clear h44 hz hc n0 n2 n3 n4 n5 hln hjl
    go_wp2_with fail
    go_region
    all_goals go_wp2_with fail
    all_goals (try simp only [Exit.inBlock, Exit.then])
    all_goals refine bodyPost_ret (v := .tuple #[noPrg, .int .i64 ln, .int .i64 ze]) ?_ rfl ?_
    ·first | (rw [results_cell_tmp3 rfl]; go_simp; done) | (rw [results_cell_tmp3 rfl]; go_simp; rfl)
    ·first | exact ⟨HPF.out _, FIN.out _ (setL_keeps (P := P2) [.slice none 0 0, .slice none 0 0, .slice none 0 0, .slice none 0 0, .slice none 0 0, .slice none 0 0] 0 w6)⟩ | exact ⟨HPF.out _, FIN.out _ ((setL_keeps (P := P2) [.slice none 0 0, .slice none 0 0, .slice none 0 0, .slice none 0 0, .slice none 0 0, .slice none 0 0] 0 w6).drew)⟩
end Go.Proofs.YtbhpnioggpgbhaaGreatDoor
