/-
  Layer 3: the document's text of an expression. Written by an AI agent.
-/
import Derived.Lib.Bytealg
import Derived.Test.YtgelggdgbmldiaaDoorChecked
import Derived.Laws.OwnMore
import Derived.Laws.AppendOwnNone
import Derived.OwnWalk
import Derived.Lib.AppendZerosOnto
import Derived.Below
import Derived.Stop.Walk2
import Derived.WalkKit
import Derived.WalkLawsBesides
import Derived.WalkSpells
import Derived.Outline
import Derived.BigQuiet
import Derived.Deep.CutBlock
import Derived.Deep.CutRange
import Derived.Deep.DeepCutAuto
import Derived.Deep.RegionHeld3
import Derived.Deep.RegionLaw
import Derived.Deep.RegionWith
import Derived.StillTailTactics
import Derived.RegionTactic
import Derived.Laws.StructEq
import Derived.Lib.Hide
import Derived.Shelf.Abstract
import Derived.Shelf.Lay
import Derived.Ground.NamesProg
import Derived.Shelf.Strings.Prefix
import Derived.Shelf.Small.Strs
import Derived.Shelf.Strings.Count
import Derived.Shelf.Strconv.ErrVarParseInt
import Derived.WalkMore
import Derived.Scope
import Derived.Shelf.Slices.Turned
import Derived.Lib.SlicesS
import Derived.Deep.RegionHeld
import Derived.Deep.LoopGhost
import Derived.Deep.Light
import Derived.Shelf.Strconv.Itoa3
import Derived.Lib.LaidTab
import Derived.Lib.ItoaLen
import Derived.Test.YtgelggdgbmldiaaDoorMcaa
import Derived.Test.YtgelggdgbmldiaaDoorMcab
import Derived.Test.YtgelggdgbmldiaaDoorMcac
import Derived.Test.YtgelggdgbmldiaaDoorMcad
import Derived.Test.YtgelggdgbmldiaaDoorMcae
import Derived.Test.YtgelggdgbmldiaaDoorMcaf
import Derived.Test.YtgelggdgbmldiaaDoorMcag
import Derived.Test.YtgelggdgbmldiaaDoorMcah
import Derived.Test.YtgelggdgbmldiaaDoorMcai
import Derived.Test.YtgelggdgbmldiaaDoorMcaq
import Derived.Test.YtgelggdgbmldiaaDoorMeaa
import Derived.Test.YtgelggdgbmldiaaDoorMeab
import Derived.Test.YtgelggdgbmldiaaDoorMeac
import Derived.Test.YtgelggdgbmldiaaDoorMead
import Derived.Test.YtgelggdgbmldiaaDoorMeae
import Derived.Test.YtgelggdgbmldiaaDoorMeaf
import Derived.Test.YtgelggdgbmldiaaDoorMeag
namespace Go.Proofs.YtgelggdgbmldiaaDoor
open Go Go.RowKit Go.Shelf
set_option linter.unusedVariables false
set_option linter.unusedSimpArgs false
set_option maxRecDepth 100000 in
set_option maxHeartbeats 16000000 in
theorem rs_ret0 (Q : List UInt8 → Prop) (nd : List Nd) (fs : List Fnc) (A A' : Option Addr) (m k c c' : Nat) (hm : m = nd.length) : RSC Q nd fs A A' m k c c' .ret0 := by
  intro i w hw hT hR
  unfold RepS at hR
  have ha := hR
  clear hR
  obtain ⟨j, b, off, ln, a, cc, rfl, hj, rfl, hn⟩ := hT.node ha
  rw [← hm] at hj
  have hjI : (j : Int) < (m : Int) := by omega
  have hj0 : (0 : Int) ≤ (j : Int) := by omega
  have HT := Lib.hid hT
  have HW := Lib.hid hw
  have HN := Lib.hid hn
  have HM := Lib.hid hm
  clear hT hw ha hj hm
  go_enter Tryd.func69, Tryd.ntmps69
  go_upto_region 1 with fail
  have ka := Keeps.one w (.cells #[.slice (some ⟨b, off, none⟩) m c, .slice A' k c'] 27)
  obtain ⟨P1, hP1⟩ : ∃ X, X = w.heap.size := ⟨_, rfl⟩
  obtain ⟨w1, hw1⟩ : ∃ w1, w1 = w.alloc (.cells #[.slice (some ⟨b, off, none⟩) m c, .slice A' k c'] 27) := ⟨_, rfl⟩
  have HX1 : Hid (Loc w1 (fun _ => False) P1 [.slice (some ⟨b, off, none⟩) m c, .slice A' k c']) := Lib.hid (by rw [hw1, hP1]; exact Loc.new (fun h => h) [.slice (some ⟨b, off, none⟩) m c, .slice A' k c'] 27)
  have HN1 := Lib.hid (HN.out.keep (hw1 ▸ ka))
  rw [← hP1]
  rw [← hw1] at ka ⊢
  have K1 := Lib.hid ka
  have HT1 := Lib.hid (HT.out.keep ka)
  clear ka hw1 hP1 HT HN
  have x0 := HX1.out.cells 0 _ rfl
  have x1 := HX1.out.cells 1 _ rfl
  have c0 := HN1.out.c0
  have c1 := HN1.out.c1
  have c2 := HN1.out.c2
  have c3 := HN1.out.c3
  have c4 : w1.cell? ⟨b, off + j * 5 + 4, none⟩ = some (.slice a 0 cc) := HN1.out.c4
  go_upto_region 2 with fail
  have ka := Keeps.one w1 (.cells #[.int .i64 17, .int .i64 ln, .int .i64 0, .string (ofL []), .slice a 0 cc] 33)
  obtain ⟨P2, hP2⟩ : ∃ X, X = w1.heap.size := ⟨_, rfl⟩
  obtain ⟨w2, hw2⟩ : ∃ w2, w2 = w1.alloc (.cells #[.int .i64 17, .int .i64 ln, .int .i64 0, .string (ofL []), .slice a 0 cc] 33) := ⟨_, rfl⟩
  have HY2 : Hid (Loc w2 (fun _ => False) P2 [.int .i64 17, .int .i64 ln, .int .i64 0, .string (ofL []), .slice a 0 cc]) := Lib.hid (by rw [hw2, hP2]; exact Loc.new (fun h => h) [.int .i64 17, .int .i64 ln, .int .i64 0, .string (ofL []), .slice a 0 cc] 33)
  rw [← hP2]
  rw [← hw2] at ka ⊢
  have HX2 := Lib.hid (HX1.out.keeps ka)
  have HT2 := Lib.hid (HT1.out.keep ka)
  have HN2 := Lib.hid (HN1.out.keep ka)
  have K2 := Lib.hid (K1.out.trans ka (fun _ _ h => h))
  clear ka hw2 hP2 x0 x1 c0 c1 c2 c3 c4 HX1 HT1 HN1 K1
  have x0 := HX2.out.cells 0 _ rfl
  have x1 := HX2.out.cells 1 _ rfl
  have y0 := HY2.out.cells 0 _ rfl
  have y2 := HY2.out.cells 2 _ rfl
  have y3 := HY2.out.cells 3 _ rfl
  have y4 := HY2.out.cells 4 _ rfl
  go_wp2_with fail
  go_ret
  exact ⟨by unfold showS; rfl, K2.out⟩
mutual
theorem rs_all (Q : List UInt8 → Prop) (nd : List Nd) (fs : List Fnc) (A A' : Option Addr) (m k c c' : Nat) (hm : m = nd.length) : ∀ s : Stm, massS s ≤ 800000 → RSC Q nd fs A A' m k c c' s
  | .lt s r, h => fun i w hw hT hR => by
    unfold massS at h
    have hR2 := hR
    unfold RepS at hR2
    obtain ⟨x, _, _, h3⟩ := hR2
    have := showR_len r x h3
    exact rs_lt Q nd fs A A' m k c c' hm s r (by omega) (rright_all Q nd fs A A' m k c c' hm r (by omega)) (by omega) i w hw hT hR
  | .set s r, h => fun i w hw hT hR => by
    unfold massS at h
    have hR2 := hR
    unfold RepS at hR2
    obtain ⟨x, _, _, h3⟩ := hR2
    have := showR_len r x h3
    exact rs_set Q nd fs A A' m k c c' hm s r (by omega) (rright_all Q nd fs A A' m k c c' hm r (by omega)) (by omega) i w hw hT hR
  | .put s a b, h => fun i w hw hT hR => by
    unfold massS at h
    have hR2 := hR
    unfold RepS at hR2
    obtain ⟨x, y, _, _, h3, h4⟩ := hR2
    have := show_len a x h3
    have := show_len b y h4
    exact rs_put Q nd fs A A' m k c c' hm s a b (by omega) (rexpr_all Q nd fs A A' m k c c' hm a (by omega)) (by omega) (rexpr_all Q nd fs A A' m k c c' hm b (by omega)) (by omega) i w hw hT hR
  | .doo s l, h => fun i w hw hT hR => by
    unfold massS at h
    have hR2 := hR
    unfold RepS at hR2
    obtain ⟨x, _, h3⟩ := hR2
    have := showR_len _ x h3
    have e : massR (.call s l) = massEs l + (s.length + 60) := rfl
    exact rs_doo Q nd fs A A' m k c c' hm s l (rright_all Q nd fs A A' m k c c' hm (.call s l) (by omega)) (by omega) i w hw hT hR
  | .print a, h => fun i w hw hT hR => by
    unfold massS at h
    have hR2 := hR
    unfold RepS at hR2
    obtain ⟨x, _, h3⟩ := hR2
    have := show_len a x h3
    exact rs_print Q nd fs A A' m k c c' hm a (rexpr_all Q nd fs A A' m k c c' hm a (by omega)) (by omega) i w hw hT hR
  | .ret0, h => rs_ret0 Q nd fs A A' m k c c' hm
  | .ret1 a, h => fun i w hw hT hR => by
    unfold massS at h
    have hR2 := hR
    unfold RepS at hR2
    obtain ⟨x, _, h3⟩ := hR2
    have := show_len a x h3
    exact rs_ret1 Q nd fs A A' m k c c' hm a (rexpr_all Q nd fs A A' m k c c' hm a (by omega)) (by omega) i w hw hT hR
  | .ifs e a, h => fun i w hw hT hR => by
    unfold massS at h
    have hR2 := hR
    unfold RepS at hR2
    obtain ⟨x, y, ys, _, h3, _, h4⟩ := hR2
    have := show_len e x h3
    have h5 := showB_len a ys h4
    exact rs_ifs Q nd fs A A' m k c c' hm e a (rexpr_all Q nd fs A A' m k c c' hm e (by omega)) (by omega) (rk_any Q nd fs A A' m k c c' hm a (by omega) (rb_all Q nd fs A A' m k c c' hm a (by omega))) (by unfold showK; simp; omega) i w hw hT hR
  | .ifelse e a b, h => fun i w hw hT hR => by
    unfold massS at h
    have hR2 := hR
    unfold RepS at hR2
    obtain ⟨x, y, ys, z, zs, _, h3, _, h4, _, h6⟩ := hR2
    have := show_len e x h3
    have h5 := showB_len a ys h4
    have h7 := showB_len b zs h6
    exact rs_ifelse Q nd fs A A' m k c c' hm e a b (rexpr_all Q nd fs A A' m k c c' hm e (by omega)) (by omega) (rk_any Q nd fs A A' m k c c' hm a (by omega) (rb_all Q nd fs A A' m k c c' hm a (by omega))) (by unfold showK; simp; omega) (rk_any Q nd fs A A' m k c c' hm b (by omega) (rb_all Q nd fs A A' m k c c' hm b (by omega))) (by unfold showK; simp; omega) i w hw hT hR
  | .whil e a, h => fun i w hw hT hR => by
    unfold massS at h
    have hR2 := hR
    unfold RepS at hR2
    obtain ⟨x, y, ys, _, h3, _, h4⟩ := hR2
    have := show_len e x h3
    have h5 := showB_len a ys h4
    exact rs_whil Q nd fs A A' m k c c' hm e a (rexpr_all Q nd fs A A' m k c c' hm e (by omega)) (by omega) (rk_any Q nd fs A A' m k c c' hm a (by omega) (rb_all Q nd fs A A' m k c c' hm a (by omega))) (by unfold showK; simp; omega) i w hw hT hR
theorem rb_all (Q : List UInt8 → Prop) (nd : List Nd) (fs : List Fnc) (A A' : Option Addr) (m k c c' : Nat) (hm : m = nd.length) : ∀ b : Bl, massB b ≤ 800000 → ∀ s ∈ blL b, RSC Q nd fs A A' m k c c' s
  | .nil, h => fun s hs => by cases hs
  | .cons s b, h => fun s' hs => by
    unfold massB at h
    rcases List.mem_cons.1 hs with h1 | h1
    · rw [h1]
      exact rs_all Q nd fs A A' m k c c' hm s (by omega)
    · exact rb_all Q nd fs A A' m k c c' hm b (by omega) s' h1
end
theorem rblock_all (Q : List UInt8 → Prop) (nd : List Nd) (fs : List Fnc) (A A' : Option Addr) (m k c c' : Nat) (hm : m = nd.length) (b : Bl) (h : massB b ≤ 800000) : RKC Q nd fs A A' m k c c' b := fun i w hw hT hR => by
  obtain ⟨ys, h1, h2⟩ := hR
  have := showB_len b ys h2
  exact rk_any Q nd fs A A' m k c c' hm b (by omega) (rb_all Q nd fs A A' m k c c' hm b h) i w hw hT ⟨ys, h1, h2⟩
end Go.Proofs.YtgelggdgbmldiaaDoor
