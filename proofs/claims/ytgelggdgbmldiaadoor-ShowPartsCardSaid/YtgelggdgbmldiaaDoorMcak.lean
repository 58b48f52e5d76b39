/-
  Layer 3: the program's text of an expression. Written by an AI agent.
  Layer 3: the program's all, over strings.Join. Written by an AI agent.
-/
import Derived.Lib.Bytealg
import Derived.Test.YtgelggdgbmldiaaDoorChecked
import Derived.Laws.OwnMore
import Derived.Laws.AppendOwnNone
import Derived.OwnWalk
import Derived.Lib.AppendZerosOnto
import Derived.Below
import Derived.Stop.Walk2
import Derived.WalkKit
import Derived.WalkLawsBesides
import Derived.WalkSpells
import Derived.Outline
import Derived.BigQuiet
import Derived.Deep.CutBlock
import Derived.Deep.CutRange
import Derived.Deep.DeepCutAuto
import Derived.Deep.RegionHeld3
import Derived.Deep.RegionLaw
import Derived.Deep.RegionWith
import Derived.StillTailTactics
import Derived.RegionTactic
import Derived.Laws.StructEq
import Derived.Lib.Hide
import Derived.Shelf.Abstract
import Derived.Shelf.Lay
import Derived.Ground.NamesProg
import Derived.Shelf.Strings.Prefix
import Derived.Shelf.Small.Strs
import Derived.Shelf.Strings.Count
import Derived.Shelf.Strconv.ErrVarParseInt
import Derived.WalkMore
import Derived.Scope
import Derived.Shelf.Slices.Turned
import Derived.Lib.SlicesS
import Derived.Deep.RegionHeld
import Derived.Deep.LoopGhost
import Derived.Deep.Light
import Derived.Shelf.Strconv.Itoa3
import Derived.Lib.LaidTab
import Derived.Lib.ItoaLen
import Derived.Maps.Own
import Derived.Maps.OwnOps
import Derived.StringKeys
import Derived.Test.YtgelggdgbmldiaaDoorMcaa
import Derived.Test.YtgelggdgbmldiaaDoorMcab
import Derived.Test.YtgelggdgbmldiaaDoorMcac
import Derived.Test.YtgelggdgbmldiaaDoorMcad
import Derived.Test.YtgelggdgbmldiaaDoorMcae
import Derived.Test.YtgelggdgbmldiaaDoorMcaf
import Derived.Test.YtgelggdgbmldiaaDoorMcag
import Derived.Test.YtgelggdgbmldiaaDoorMcah
import Derived.Test.YtgelggdgbmldiaaDoorMcai
import Derived.Test.YtgelggdgbmldiaaDoorMcaj
import Derived.Shelf.Strings.OnBuilder
namespace Go.Proofs.YtgelggdgbmldiaaDoor
open Go Go.RowKit Go.Shelf
set_option linter.unusedVariables false
set_option linter.unusedSimpArgs false
/-- What the program's Expr tells. -/
def PXC (Q : List UInt8 → Prop) (nd : List Nd) (fs : List Fnc) (A A' : Option Addr) (m k c c' : Nat) (e : Ex) : Prop :=
  ∀ (i : Int) (w : World), ShW w → TreeR 0 w A A' nd fs → RepE Q nd e i → Calls Tryd.prog 20 #[.agg #[.slice A m c, .slice A' k c'], .int .i64 i] w fun r w' => r = .returned (.string (ofL (showE e))) ∧ Keeps (fun _ => False) w w'
def PXR (Q : List UInt8 → Prop) (nd : List Nd) (fs : List Fnc) (A A' : Option Addr) (m k c c' : Nat) (e : Rt) : Prop :=
  ∀ (i : Int) (w : World), ShW w → TreeR 0 w A A' nd fs → RepR Q nd e i → Calls Tryd.prog 20 #[.agg #[.slice A m c, .slice A' k c'], .int .i64 i] w fun r w' => r = .returned (.string (ofL (showR e))) ∧ Keeps (fun _ => False) w w'
set_option maxRecDepth 100000 in
set_option maxHeartbeats 16000000 in
theorem side_any (Q : List UInt8 → Prop) (nd : List Nd) (fs : List Fnc) (A A' : Option Addr) (m k c c' : Nat) (hm : m = nd.length) (e : Ex) (hlen : (showE e).length ≤ 1000000) (hc : PXC Q nd fs A A' m k c c' e) (idx lv cnt cc b0 o0 P1 P2 : Nat) (x : Int) (hidx : idx < cnt) (hlv : lv ≤ 10) (w : World) (hw : ShW w) (hT : TreeR 0 w A A' nd fs) (hR : RepE Q nd e x)
    (hx0 : w.cell? ⟨P1, 0, none⟩ = some (.slice A m c)) (hx1 : w.cell? ⟨P1, 1, none⟩ = some (.slice A' k c')) (hy4 : w.cell? ⟨P2, 4, none⟩ = some (.slice (some ⟨b0, o0, none⟩) cnt cc)) (hkc : w.cell? ⟨b0, o0 + idx, none⟩ = some (.int .i64 x)) :
    Calls Tryd.prog 31 #[.int .i64 (idx : Int), .int .i64 (lv : Int), .pointer (some ⟨P2, 0, none⟩), .pointer (some ⟨P1, 0, none⟩)] w fun r w' => r = .returned (.string (ofL (parL (decide (lvE e < lv)) (showE e)))) ∧ Keeps (fun _ => False) w w' := by
  obtain ⟨kk, nn, s, l, ha, hk, h9⟩ := lev_of e x hR
  have HR := Lib.hid hR
  obtain ⟨j, b, off, ln, a, cc2, rfl, hj, rfl, hn⟩ := hT.node ha
  rw [← hm] at hj
  have hjI : (j : Int) < (m : Int) := by omega
  have hj0 : (0 : Int) ≤ (j : Int) := by omega
  have hiI : (idx : Int) < (cnt : Int) := by omega
  have hi0 : (0 : Int) ≤ (idx : Int) := by omega
  have HT := Lib.hid hT
  have HW := Lib.hid hw
  have HM := Lib.hid hm
  obtain ⟨ll, hll⟩ : ∃ n, n = l.length := ⟨_, rfl⟩
  have c0 := hn.c0
  have c1 := hn.c1
  have c2 := hn.c2
  have c3 := hn.c3
  have c4 := hn.c4
  rw [← hll] at c4
  have LC : Hid (∀ w', Calls Tryd.prog 18 #[.agg #[.int .i64 kk, .int .i64 ln, .int .i64 nn, .string (ofL s), .slice a ll cc2]] w' fun r w'' => r = .returned (.int .i64 (lvE e : Nat)) ∧ Keeps (fun _ => False) w' w'') := Lib.hid fun w' => by
    rw [← hk]
    exact plevel_any kk ln nn s a ll cc2 w' h9
  obtain ⟨S2, hS2⟩ : ∃ S, S = ofL (showE e) := ⟨_, rfl⟩
  have z2 : Hid (S2.size ≤ 1000000) := Lib.hid (by rw [hS2, ofL_size]; exact hlen)
  have HS2 := Lib.hid hS2
  have HC : Hid (∀ w', Keeps (fun _ => False) w w' → Calls Tryd.prog 20 #[.agg #[.slice (some ⟨b, off, none⟩) m c, .slice A' k c'], .int .i64 (j : Int)] w' fun r w'' => r = .returned (.string S2) ∧ Keeps (fun _ => False) w' w'') := Lib.hid fun w' q => by
    rw [HS2.out]
    exact hc _ w' (HW.out.keep q) (HT.out.keep q) HR.out
  clear hT hw ha hj hm hR hn hk h9 hc hlen hll hS2 hidx hlv
  generalize lvE e = le at LC ⊢
  go_enter Tryd.func31, Tryd.ntmps31
  have LD := Lib.hid (LC.out w)
  go_wp2_with fail
  refine LD.out.mono ?_
  rintro e w4 ⟨rfl, k4⟩
  have K4 := Lib.hid k4
  have x0 := (k4.cell (cell_ltk hx0) (fun h => h)).trans hx0
  have x1 := (k4.cell (cell_ltk hx1) (fun h => h)).trans hx1
  have CD := Lib.hid (HC.out w4 k4)
  clear k4 LD LC c0 c1 c2 c3 c4 hx0 hx1 hy4 hkc HC
  by_cases hlt : le < lv
  · have h1 : (le : Int) < (lv : Int) := by omega
    have h2 : decide ((le : Int) < (lv : Int)) = true := decide_eq_true h1
    have q1 : ¬ 9223372036854775807 < 1 + S2.size := by have := z2.out; omega
    have q2 : ¬ 9223372036854775807 < 1 + S2.size + 1 := by have := z2.out; omega
    have HM2 : Hid (({ data := #[40] } : ByteArray) ++ S2 ++ { data := #[41] } = ofL (parL (decide (le < lv)) (showE e))) := Lib.hid (of_list (by rw [HS2.out, decide_eq_true hlt]; simp [bap_list, ofL_list, parL]; done))
    clear hlt
    go_wp2_with fail
    refine CD.out.mono ?_
    rintro e w5 ⟨rfl, k5⟩
    have K5 := Lib.hid (K4.out.trans k5 (fun _ _ h => h))
    clear k5 CD x0 x1
    go_wp2_with fail
    go_ret
    exact ⟨by (rw [HM2.out]; first | done | rfl), K5.out⟩
  · have h1 : ¬ (le : Int) < (lv : Int) := by omega
    have h2 : decide ((le : Int) < (lv : Int)) = false := decide_eq_false h1
    have HM2 : Hid (S2 = ofL (parL (decide (le < lv)) (showE e))) := Lib.hid (by rw [HS2.out, decide_eq_false hlt]; rfl)
    clear hlt
    go_wp2_with fail
    refine CD.out.mono ?_
    rintro e w5 ⟨rfl, k5⟩
    have K5 := Lib.hid (K4.out.trans k5 (fun _ _ h => h))
    clear k5 CD x0 x1
    go_wp2_with fail
    go_ret
    exact ⟨by (rw [← HM2.out]; first | done | rfl), K5.out⟩
end Go.Proofs.YtgelggdgbmldiaaDoor

namespace Go.Proofs.YtgelggdgbmldiaaDoor
open Go Go.RowKit Go.Shelf
set_option linter.unusedVariables false
set_option linter.unusedSimpArgs false

shelf_lay Lays.n156 Nm 156 at Tryd as laysJoin
theorem extraJoin : Builder.Extra Tryd.prog laysJoin_ren where
  sizeBuilder := by kernel_rfl
  liesBuilder := by kernel_rfl
  t5 := Tryd.underlying5
  a5 := Tryd.isAgg5
  z5 := Tryd.sizeOf5
  v5 := Tryd.zeroValue5
  infoByte := by kernel_rfl
  cellsByte := by kernel_rfl
  sizeByte := by kernel_rfl
  neB5 := by decide
theorem info_str : (Tryd.prog.info? 9).map (fun i => (i.zero, i.size, i.bytes)) = some (some (.string ⟨#[]⟩), 1, 16) := by kernel_rfl
theorem join_joinC : ∀ l : List Ex, Lib.join (l.map showE) [44] = joinC l
  | [] => rfl
  | [e] => Lib.join_one _ _
  | e :: f :: l => by
    have ih := join_joinC (f :: l)
    show List.intercalate [44] (showE e :: showE f :: l.map showE) = showE e ++ 44 :: joinC (f :: l)
    rw [← ih]
    show List.intercalate [44] (showE e :: showE f :: l.map showE) = showE e ++ 44 :: List.intercalate [44] (showE f :: l.map showE)
    simp [List.intercalate]
/-- Texts in a row. -/
def valS (l : List Ex) : List Value := l.map fun e => .string (ofL (showE e))
/-- Join, of a row of texts. -/
theorem joinE_any (l : List Ex) (hlen : totC l ≤ 1000000) (base : Nat) (A : Option Addr) (n c : Nat) (w : World) (hn : n = l.length) (ho : w.ownsRow base 9 1 (.slice A n c) n (valS l)) :
    Calls Tryd.prog 66 #[.slice A n c, .string { data := #[44] }] w fun e w' => e = .returned (.string (ofL (joinC l))) ∧ Keeps (fun _ => False) w w' := by
  have hN : n ≤ 1000000 := by
    rw [hn]
    have : ∀ l : List Ex, l.length ≤ totC l := by
      intro l
      induction l with
      | nil => exact Nat.zero_le _
      | cons e l ih => show l.length + 1 ≤ ((showE e).length + 1) + totC l; omega
    exact Nat.le_trans (this l) hlen
  rcases ho.2 with ⟨e1, h1⟩ | ⟨g, cap, cur, e1, hb, hg, hcap, hmax, hsz, htk⟩
  · injection e1 with e2 e3 e4
    subst h1
    subst e2
    subst e4
    have : l = [] := List.eq_nil_of_length_eq_zero hn.symm
    subst this
    exact (Any.strings_Join_none laysJoin extraJoin none 0 { data := #[44] } w).mono fun e w' ⟨he, hw⟩ => ⟨he, by rw [hw]; exact Keeps.refl _ _⟩
  · injection e1 with e2 e3 e4
    subst e2
    subst e4
    have hlt : g < w.heap.size := by
      rcases Nat.lt_or_ge g w.heap.size with h | h
      · exact h
      · rw [Array.getElem?_eq_none h] at hg
        cases hg
    have hm : (l.map fun e => ofL (showE e)).map (fun x => x.data.toList) = l.map showE := by
      rw [List.map_map]
      exact List.map_congr_left fun e _ => ofL_list _
    have hj := join_joinC l
    have h := Any.strings_Join laysJoin extraJoin g 0 c (l.map fun e => ofL (showE e)) { data := #[44] } w (fun j x hx => by
      rw [Nat.zero_add]
      rw [List.getElem?_map] at hx
      have hjl : j < l.length := by
        rcases Nat.lt_or_ge j l.length with h | h
        · exact h
        · rw [List.getElem?_eq_none h] at hx
          cases hx
      have h3 := ho.cellAt j (by omega)
      rw [h3]
      unfold valS
      rw [List.getElem?_map]
      cases he : l[j]? with
      | none => rw [he] at hx; cases hx
      | some e =>
        rw [he] at hx
        have hx : ofL (showE e) = x := Option.some.inj hx
        rw [← hx]
        rfl) hlt (by rw [List.length_map]; omega) (by rw [List.length_map]; omega) (by
      rw [hm]
      show (Lib.join (l.map showE) [44]).length ≤ _
      rw [hj]
      have := joinC_le l
      omega)
    rw [hm] at h
    rw [List.length_map, ← hn] at h
    refine h.mono fun e w' ⟨he, hw⟩ => ⟨?_, Keeps.ofBelow hw⟩
    rw [he]
    show Ending.returned (.string ⟨(Lib.join (l.map showE) [44]).toArray⟩) = _
    rw [hj]
    rfl
set_option maxRecDepth 100000 in
set_option maxHeartbeats 16000000 in
theorem all_texts (Q : List UInt8 → Prop) (nd : List Nd) (fs : List Fnc) (A A' : Option Addr) (m k c c' : Nat) (hm : m = nd.length) (l : List Ex) (xs : List Int) (hlen : totC l ≤ 1000000) (hc : ∀ e ∈ l, PXC Q nd fs A A' m k c c' e) (a : Option Addr) (n cc : Nat) (hn : n = xs.length) (hx : RepEs Q nd l xs) (w : World) (hw : ShW w) (hT : TreeR 0 w A A' nd fs) (hr : RdI w a xs) :
    Calls Tryd.prog 34 #[.agg #[.slice A m c, .slice A' k c'], .slice a n cc] w fun r w' => r = .returned (.string (ofL (joinC l))) ∧ Keeps (fun _ => False) w w' := by
  obtain ⟨hxl, hxx⟩ := repEs_at hx
  have HX := Lib.hid hxx
  have HNL : Hid (n = l.length) := Lib.hid (by rw [hn, hxl])
  have HNX := Lib.hid hn
  have HL := Lib.hid hlen
  have HC := Lib.hid hc
  have HW := Lib.hid hw
  have HT := Lib.hid hT
  have HR := Lib.hid hr
  have hn6 : n ≤ 999990 ∨ 999990 < n := by omega
  have hn7 : n ≤ 1000000 := by
    rw [HNL.out]
    have : ∀ l : List Ex, l.length ≤ totC l := by
      intro l
      induction l with
      | nil => exact Nat.zero_le _
      | cons e l ih => show l.length + 1 ≤ ((showE e).length + 1) + totC l; omega
    exact Nat.le_trans (this l) hlen
  obtain ⟨i0, hi0, hz0, hz1, hz2⟩ := info_parts info_str
  clear hxl hxx hx hn hlen hc hw hT hr hm hn6
  go_enter Tryd.func34, Tryd.ntmps34
  go_upto_region 1 with fail
  have ka := Keeps.one w (.cells #[.slice A m c, .slice A' k c'] 27)
  obtain ⟨P1, hP⟩ : ∃ X, X = w.heap.size := ⟨_, rfl⟩
  obtain ⟨w1, hw1⟩ : ∃ w1, w1 = w.alloc (.cells #[.slice A m c, .slice A' k c'] 27) := ⟨_, rfl⟩
  have HX1 : Hid (Loc w1 (fun _ => False) P1 [.slice A m c, .slice A' k c']) := Lib.hid (by rw [hw1, hP]; exact Loc.new (fun h => h) [.slice A m c, .slice A' k c'] 27)
  rw [← hP]
  rw [← hw1] at ka ⊢
  have K1 := Lib.hid ka
  have HT1 := Lib.hid (HT.out.keep ka)
  have HR1 := Lib.hid (HR.out.keep ka (fun _ _ _ _ h => h))
  clear ka hw1 hP HT HR
  go_upto_region 3 with fail
  go_loopg [5, 7, 10] (n + 1) (fun q s5 s7 s10 wr => ∃ (i : Nat) (A5 : Option Addr) (c5 : Nat), s5 = .slice A5 i c5 ∧ s10 = .int .i64 i ∧ i + q = n + 1 ∧ i ≤ n ∧ wr.ownsRow w1.heap.size 9 1 (.slice A5 i c5) i (valS (l.take i)) ∧ Keeps (fun _ => False) w1 wr)
  case atStart => exact ⟨0, none, 0, rfl, rfl, by omega, by omega, World.ownsRow_nil _ _ _ _, Keeps.refl _ _⟩
  case round =>
    obtain ⟨i, A5, c5, rfl, rfl, hiq, hin1, ho, kr⟩ := hrel
    have KR := Lib.hid kr
    have HIQ := Lib.hid hiq
    have HO := Lib.hid ho
    have x0 := (HX1.out.keeps kr).cells 0 _ rfl
    have x1 := (HX1.out.keeps kr).cells 1 _ rfl
    have HTr := Lib.hid (HT1.out.keep kr)
    have HRr := Lib.hid (HR1.out.keep kr (fun _ _ _ _ h => h))
    clear hiq ho kr
    by_cases hin : i < n
    · have hI : (i : Int) < (n : Int) := by omega
      have hdI : decide ((i : Int) < (n : Int)) = true := decide_eq_true hI
      have hi00 : (0 : Int) ≤ (i : Int) := by omega
      have wi : IntKind.i64.wrap ((i : Int) + 1) = (i : Int) + 1 := IntWalk.i64_in _ (by omega)
      have HIN := Lib.hid hin
      have hil : i < l.length := by rw [← HNL.out]; exact hin
      obtain ⟨x, hx1, hx2⟩ := HX.out i hil
      obtain ⟨b0, o0, rfl, kc⟩ := HRr.out.get (k := i) (by rw [← HNX.out]; exact hin) hx1
      obtain ⟨e, he⟩ : ∃ e, e = l[i] := ⟨_, rfl⟩
      rw [← he] at hx2
      have hem : e ∈ l := by rw [he]; exact List.getElem_mem _
      have HNXT : Hid (valS (l.take (i + 1)) = valS (l.take i) ++ [.string (ofL (showE e))]) := Lib.hid (by
        unfold valS
        rw [List.take_succ_eq_append_getElem hil, List.map_append, he]
        rfl)
      have CH := Lib.hid (HC.out e hem x wr (HW.out.keep (K1.out.trans KR.out (fun _ _ h => h))) HTr.out hx2)
      obtain ⟨S2, hS2⟩ : ∃ S, S = ofL (showE e) := ⟨_, rfl⟩
      rw [← hS2] at CH HNXT
      have hn9 : i + 1 ≤ 1000000 := by omega
      clear hx1 hx2 he hem hil hin hS2
      go_wp2_with fail
      refine CH.out.mono ?_
      rintro r w4 ⟨rfl, k4⟩
      have K4 := Lib.hid (KR.out.trans k4 (fun _ _ h => h))
      have HO4 := Lib.hid (ownsRow_keep HO.out (fun g hg => k4.block g (own_ltk HO.out hg) (fun h => h)))
      have HSZ : Hid (w1.heap.size ≤ w4.heap.size) := Lib.hid K4.out.size
      clear k4 CH x0 x1 kc HO KR
      go_wp2_with (at_builtin; refine wpList_append_atk rfl (.tmp 14) (.tmp 18) 41 rfl w1.heap.size 9 i0 _ 1 16 Tryd.underlying41 hi0 hz0 hz1 hz2 (by rfl) (by omega) (.slice A5 i c5) i (valS (l.take i)) (by rfl) (ownsRow_keep HO4.out (fun g hg => (Keeps.one w4 _).block g (own_ltk HO4.out hg) (fun h => h))) ⟨w4.heap.size, 0, none⟩ 1 1 [.string S2] (by rfl) (by rfl) (newsG [.string S2] _) (fun u hu => by rw [List.mem_singleton.1 hu]; rfl) (by omega) (by omega) (Nat.le_trans HSZ.out (Keeps.one w4 _).size) ?_; intro v5 w5 h5 g5 b5; obtain ⟨A6, c6, rfl⟩ := own_formk h5; have HO5 : Hid (w5.ownsRow w1.heap.size 9 1 (.slice A6 (i + 1) c6) (i + 1) (valS (l.take (i + 1)))) := Lib.hid (by rw [HNXT.out]; exact h5); have K5 : Hid (Keeps (fun _ => False) w1 w5) := Lib.hid ((K4.out.trans (Keeps.one w4 _) (fun _ _ h => h)).grown g5 (fun kk hk hlt => by have := (HO4.out.lt kk hk).1; omega)); clear h5 g5 b5 HO4 K4)
      go_roundg (gk - 1)
      case measure => go_light; have h1 := HIQ.out; have h2 := HIN.out; omega
      case rel => exact ⟨i + 1, A6, c6, rfl, by go_num, by have h1 := HIQ.out; have h2 := HIN.out; go_light; omega, by have h2 := HIN.out; go_light; omega, HO5.out, K5.out⟩
    · obtain rfl : n = i := by omega
      have hI : ¬ (n : Int) < (n : Int) := by omega
      have hdI : decide ((n : Int) < (n : Int)) = false := decide_eq_false hI
      have JC := Lib.hid (joinE_any l HL.out w1.heap.size A5 n c5 wr HNL.out (by have h := HO.out; rw [show l.take n = l by rw [HNL.out]; exact List.take_length] at h; exact h))
      clear hin hin1
      go_wp2_with fail
      refine JC.out.mono ?_
      rintro r w4 ⟨rfl, k4⟩
      have K4 := Lib.hid (KR.out.trans k4 (fun _ _ h => h))
      clear k4 JC
      go_wp2_with fail
      go_ret
      exact ⟨rfl, K1.out.trans K4.out (fun _ _ h => h)⟩
end Go.Proofs.YtgelggdgbmldiaaDoor
