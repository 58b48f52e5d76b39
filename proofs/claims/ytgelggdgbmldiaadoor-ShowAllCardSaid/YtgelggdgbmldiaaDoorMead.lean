/-
  Layer 3: the document's text of a call. Written by an AI agent.
  Layer 3: the document's Expr tells the text of any expression. Written by an AI agent.
-/
import Derived.Lib.Bytealg
import Derived.Test.YtgelggdgbmldiaaDoorChecked
import Derived.Laws.OwnMore
import Derived.Laws.AppendOwnNone
import Derived.OwnWalk
import Derived.Lib.AppendZerosOnto
import Derived.Below
import Derived.Stop.Walk2
import Derived.WalkKit
import Derived.WalkLawsBesides
import Derived.WalkSpells
import Derived.Outline
import Derived.BigQuiet
import Derived.Deep.CutBlock
import Derived.Deep.CutRange
import Derived.Deep.DeepCutAuto
import Derived.Deep.RegionHeld3
import Derived.Deep.RegionLaw
import Derived.Deep.RegionWith
import Derived.StillTailTactics
import Derived.RegionTactic
import Derived.Laws.StructEq
import Derived.Lib.Hide
import Derived.Shelf.Abstract
import Derived.Shelf.Lay
import Derived.Ground.NamesProg
import Derived.Shelf.Strings.Prefix
import Derived.Shelf.Small.Strs
import Derived.Shelf.Strings.Count
import Derived.Shelf.Strconv.ErrVarParseInt
import Derived.WalkMore
import Derived.Scope
import Derived.Shelf.Slices.Turned
import Derived.Lib.SlicesS
import Derived.Deep.RegionHeld
import Derived.Deep.LoopGhost
import Derived.Deep.Light
import Derived.Shelf.Strconv.Itoa3
import Derived.Lib.LaidTab
import Derived.Lib.ItoaLen
import Derived.Test.YtgelggdgbmldiaaDoorMcaa
import Derived.Test.YtgelggdgbmldiaaDoorMcab
import Derived.Test.YtgelggdgbmldiaaDoorMcac
import Derived.Test.YtgelggdgbmldiaaDoorMcad
import Derived.Test.YtgelggdgbmldiaaDoorMcae
import Derived.Test.YtgelggdgbmldiaaDoorMcaf
import Derived.Test.YtgelggdgbmldiaaDoorMcag
import Derived.Test.YtgelggdgbmldiaaDoorMcah
import Derived.Test.YtgelggdgbmldiaaDoorMcai
import Derived.Test.YtgelggdgbmldiaaDoorMeaa
import Derived.Test.YtgelggdgbmldiaaDoorMeab
import Derived.Test.YtgelggdgbmldiaaDoorMeac
namespace Go.Proofs.YtgelggdgbmldiaaDoor
open Go Go.RowKit Go.Shelf
set_option linter.unusedVariables false
set_option linter.unusedSimpArgs false
theorem joinC_more : ∀ (l : List Ex) (e : Ex), joinC (l ++ [e]) = (if l = [] then [] else joinC l ++ [44]) ++ showE e
  | [], e => rfl
  | [f], e => by
    show showE f ++ 44 :: joinC [e] = (if [f] = [] then [] else joinC [f] ++ [44]) ++ showE e
    rw [if_neg (by simp)]
    show showE f ++ 44 :: showE e = (showE f ++ [44]) ++ showE e
    simp
  | f :: h :: l, e => by
    have ih := joinC_more (h :: l) e
    rw [if_neg (by simp)] at ih
    rw [if_neg (by simp)]
    show showE f ++ 44 :: joinC ((h :: l) ++ [e]) = ((showE f ++ 44 :: joinC (h :: l)) ++ [44]) ++ showE e
    rw [ih]
    simp
theorem totC_take : ∀ (l : List Ex) (i : Nat), totC (l.take i) ≤ totC l
  | [], i => by simp [totC]
  | e :: l, 0 => Nat.zero_le _
  | e :: l, i + 1 => by have := totC_take l i; show ((showE e).length + 1) + totC (l.take i) ≤ ((showE e).length + 1) + totC l; omega
set_option maxRecDepth 100000 in
set_option maxHeartbeats 16000000 in
theorem rx_call (Q : List UInt8 → Prop) (nd : List Nd) (fs : List Fnc) (A A' : Option Addr) (m k c c' : Nat) (hm : m = nd.length) (s : List UInt8) (l : List Ex) (hlen : s.length + totC l ≤ 1000000) (hc : ∀ e ∈ l, RXC Q nd fs A A' m k c c' e) : RXR Q nd fs A A' m k c c' (.call s l) := by
  have HL := Lib.hid hlen
  have HC := Lib.hid hc
  clear hlen hc
  intro i w hw hT hR
  obtain ⟨xs, ha, _, hx⟩ := hR
  obtain ⟨j, b, off, ln, a, cc, rfl, hj, rfl, hn⟩ := hT.node ha
  rw [← hm] at hj
  have hjI : (j : Int) < (m : Int) := by omega
  have hj0 : (0 : Int) ≤ (j : Int) := by omega
  obtain ⟨n, hn2⟩ : ∃ n, n = xs.length := ⟨_, rfl⟩
  obtain ⟨hxl, hxx⟩ := repEs_at hx
  have HNL : Hid (n = l.length) := Lib.hid (by rw [hn2, hxl])
  have HNX := Lib.hid hn2
  have HX := Lib.hid hxx
  clear hx hxl hxx hn2
  have HT := Lib.hid hT
  have HW := Lib.hid hw
  have HN := Lib.hid hn
  have HM := Lib.hid hm
  clear hT hw ha hj hm
  go_enter Tryd.func21, Tryd.ntmps21
  go_upto_region 1 with fail
  have ka := Keeps.one w (.cells #[.slice (some ⟨b, off, none⟩) m c, .slice A' k c'] 27)
  obtain ⟨P1, hP1⟩ : ∃ X, X = w.heap.size := ⟨_, rfl⟩
  obtain ⟨w1, hw1⟩ : ∃ w1, w1 = w.alloc (.cells #[.slice (some ⟨b, off, none⟩) m c, .slice A' k c'] 27) := ⟨_, rfl⟩
  have HX1 : Hid (Loc w1 (fun _ => False) P1 [.slice (some ⟨b, off, none⟩) m c, .slice A' k c']) := Lib.hid (by rw [hw1, hP1]; exact Loc.new (fun h => h) [.slice (some ⟨b, off, none⟩) m c, .slice A' k c'] 27)
  have HN1 := Lib.hid (HN.out.keep (hw1 ▸ ka))
  rw [← hP1]
  rw [← hw1] at ka ⊢
  have K1 := Lib.hid ka
  have HT1 := Lib.hid (HT.out.keep ka)
  clear ka hw1 hP1 HT HN
  have x0 := HX1.out.cells 0 _ rfl
  have x1 := HX1.out.cells 1 _ rfl
  have c0 := HN1.out.c0
  have c1 := HN1.out.c1
  have c2 := HN1.out.c2
  have c3 := HN1.out.c3
  have c4 := HN1.out.c4
  rw [← HNX.out] at c4
  go_upto_region 2 with fail
  have ka := Keeps.one w1 (.cells #[.int .i64 21, .int .i64 ln, .int .i64 0, .string (ofL s), .slice a n cc] 33)
  obtain ⟨P2, hP2⟩ : ∃ X, X = w1.heap.size := ⟨_, rfl⟩
  obtain ⟨w2, hw2⟩ : ∃ w2, w2 = w1.alloc (.cells #[.int .i64 21, .int .i64 ln, .int .i64 0, .string (ofL s), .slice a n cc] 33) := ⟨_, rfl⟩
  have HY2 : Hid (Loc w2 (fun _ => False) P2 [.int .i64 21, .int .i64 ln, .int .i64 0, .string (ofL s), .slice a n cc]) := Lib.hid (by rw [hw2, hP2]; exact Loc.new (fun h => h) [.int .i64 21, .int .i64 ln, .int .i64 0, .string (ofL s), .slice a n cc] 33)
  rw [← hP2]
  rw [← hw2] at ka ⊢
  have HX2 := Lib.hid (HX1.out.keeps ka)
  have HT2 := Lib.hid (HT1.out.keep ka)
  have HN2 := Lib.hid (HN1.out.keep ka)
  have K2 := Lib.hid (K1.out.trans ka (fun _ _ h => h))
  clear ka hw2 hP2 x0 x1 c0 c1 c2 c3 c4 HX1 HT1 HN1 K1
  have x0 := HX2.out.cells 0 _ rfl
  have x1 := HX2.out.cells 1 _ rfl
  have y0 := HY2.out.cells 0 _ rfl
  have y2 := HY2.out.cells 2 _ rfl
  have y3 := HY2.out.cells 3 _ rfl
  have y4 := HY2.out.cells 4 _ rfl
  obtain ⟨S1, hS1⟩ : ∃ S, S = ofL s := ⟨_, rfl⟩
  have z1 : S1.size = s.length := by rw [hS1]; exact ofL_size _
  have HS1 := Lib.hid hS1
  have HZ1 := Lib.hid z1
  rw [← hS1] at y3
  have q1 : ¬ 9223372036854775807 < S1.size + 1 := by have := HL.out; omega
  have hng : n ≤ 1000000 := by
    rw [HNL.out]
    have : ∀ l : List Ex, l.length ≤ totC l := by
      intro l
      induction l with
      | nil => exact Nat.zero_le _
      | cons e l ih => show l.length + 1 ≤ ((showE e).length + 1) + totC l; omega
    have h1 := this l
    have h2 := HL.out
    omega
  clear hS1 z1
  go_upto_region 33 with fail
  clear x0 x1 y0 y2 y3 y4
  go_loopg [8, 9] (n + 1) (fun q s8 s9 wr => ∃ (i : Nat) (g : ByteArray), s8 = .string g ∧ s9 = .int .i64 i ∧ i + q = n + 1 ∧ i ≤ n ∧ g.data.toList = s ++ 40 :: joinC (l.take i) ∧ Keeps (fun _ => False) w2 wr)
  case atStart => exact ⟨0, _, rfl, rfl, by omega, by omega, by rw [bap_list, HS1.out, ofL_list]; rfl, Keeps.refl _ _⟩
  case round =>
    obtain ⟨i, g, rfl, rfl, hiq, hin1, hg, kr⟩ := hrel
    have KR := Lib.hid kr
    have HIQ := Lib.hid hiq
    have HG := Lib.hid hg
    have hgs : g.size ≤ 1000010 := by
      rw [← len_size, hg, List.length_append, List.length_cons]
      have h1 := joinC_le (l.take i)
      have h2 := totC_take l i
      have h3 := HL.out
      omega
    have x0 := (HX2.out.keeps kr).cells 0 _ rfl
    have x1 := (HX2.out.keeps kr).cells 1 _ rfl
    have y4 := (HY2.out.keeps kr).cells 4 _ rfl
    have HTr := Lib.hid (HT2.out.keep kr)
    have HNr := Lib.hid (HN2.out.keep kr)
    clear hiq hg kr
    by_cases hin : i < n
    · have hI : (i : Int) < (n : Int) := by omega
      have hdI : decide ((i : Int) < (n : Int)) = true := decide_eq_true hI
      have hi0 : (0 : Int) ≤ (i : Int) := by omega
      have wi : IntKind.i64.wrap ((i : Int) + 1) = (i : Int) + 1 := IntWalk.i64_in _ (by omega)
      have HIN := Lib.hid hin
      have hil : i < l.length := by rw [← HNL.out]; exact hin
      obtain ⟨x, hx1, hx2⟩ := HX.out i hil
      obtain ⟨b0, o0, rfl, kc⟩ := HNr.out.ro.get (k := i) (by rw [← HNX.out]; exact hin) hx1
      obtain ⟨e, he⟩ : ∃ e, e = l[i] := ⟨_, rfl⟩
      rw [← he] at hx2
      have hem : e ∈ l := by rw [he]; exact List.getElem_mem _
      have HXE := Lib.hid hx2
      have hnx : joinC (l.take (i + 1)) = (if l.take i = [] then [] else joinC (l.take i) ++ [44]) ++ showE e := by
        rw [List.take_succ_eq_append_getElem hil, joinC_more, he]
      obtain ⟨S2, hS2⟩ : ∃ S, S = ofL (showE e) := ⟨_, rfl⟩
      have HS2 := Lib.hid hS2
      have z2 : S2.size ≤ 1000000 := by
        rw [hS2, ofL_size]
        have h1 := joinC_le (l.take (i + 1))
        have h2 := totC_take l (i + 1)
        have h3 := HL.out
        rw [hnx, List.length_append] at h1
        omega
      have CH : Hid (∀ w', Keeps (fun _ => False) wr w' → Calls Tryd.prog 21 #[.agg #[.slice (some ⟨b, off, none⟩) m c, .slice A' k c'], .int .i64 x] w' fun r w'' => r = .returned (.string S2) ∧ Keeps (fun _ => False) wr w'') := Lib.hid (fun w' q => by
        rw [HS2.out]
        exact (HC.out e hem x w' (HW.out.keep ((K2.out.trans KR.out (fun _ _ h => h)).trans q (fun _ _ h => h))) (HTr.out.keep q) HXE.out).mono fun r w'' ⟨h1, h2⟩ => ⟨h1, q.trans h2 (fun _ _ h => h)⟩)
      have SK : Hid (∀ w', Keeps (fun _ => False) wr w' → (w'.cell? ⟨P1, 0, none⟩ = some ((.slice (some ⟨b, off, none⟩) m c)) ∧ w'.cell? ⟨P1, 1, none⟩ = some ((.slice A' k c')) ∧ w'.cell? ⟨P2, 4, none⟩ = some (.slice (some ⟨b0, o0, none⟩) n cc) ∧ w'.cell? ⟨b0, (o0 + i), none⟩ = some (.int .i64 x)) ∧ Keeps (fun _ => False) wr w') := Lib.hid (fun w' q => ⟨⟨(q.cell (cell_ltk x0) (fun h => h)).trans x0, (q.cell (cell_ltk x1) (fun h => h)).trans x1, (q.cell (cell_ltk y4) (fun h => h)).trans y4, (q.cell (cell_ltk kc) (fun h => h)).trans kc⟩, q⟩)
      have HNXT := Lib.hid hnx
      have hti : i = 0 ∨ (0 < i ∧ l.take i ≠ []) := by
        rcases Nat.eq_zero_or_pos i with h | h
        · exact .inl h
        · refine .inr ⟨h, fun h0 => ?_⟩
          have := congrArg List.length h0
          rw [List.length_take] at this
          simp only [List.length_nil] at this
          omega
      clear hnx hS2 hx1 hx2 he hem hil hin
      rcases hti with h00 | ⟨h0, hne⟩
      · have ht : l.take i = [] := by rw [h00]; rfl
        have hI0 : ¬ (0 : Int) < (i : Int) := by omega
        have hd0 : decide ((0 : Int) < (i : Int)) = false := decide_eq_false hI0
        have q2 : ¬ 9223372036854775807 < g.size + S2.size := by omega
        have HM2 : Hid ((g ++ S2).data.toList = s ++ 40 :: joinC (l.take (i + 1))) := Lib.hid (by rw [HNXT.out, if_pos ht, bap_list, HG.out, ht, HS2.out, ofL_list]; simp [joinC])
        clear ht h00
        go_upto_region 37 with fail
        go_region_held3 (fun w' => (w'.cell? ⟨P1, 0, none⟩ = some ((.slice (some ⟨b, off, none⟩) m c)) ∧ w'.cell? ⟨P1, 1, none⟩ = some ((.slice A' k c')) ∧ w'.cell? ⟨P2, 4, none⟩ = some (.slice (some ⟨b0, o0, none⟩) n cc) ∧ w'.cell? ⟨b0, (o0 + i), none⟩ = some (.int .i64 x)) ∧ Keeps (fun _ => False) wr w') (first | exact SK.out _ (Keeps.refl _ _) | exact SK.out _ (by assumption) | exact SK.out _ ((Keeps.refl _ _).drew) | exact SK.out _ (Keeps.drew (by assumption))) (first | (go_at_call 21; refine (CH.out _ (by first | assumption | exact (Keeps.refl _ _).drew | exact Keeps.drew (by assumption) | exact Keeps.refl _ _)).mono ?_; rintro e w3 ⟨rfl, k3⟩))
        go_wp2_with fail
        go_roundg (gk - 1)
        case measure => go_light; have h1 := HIQ.out; have h2 := HIN.out; omega
        case rel => exact ⟨i + 1, _, rfl, by go_num, by have h1 := HIQ.out; have h2 := HIN.out; go_light; omega, by have h2 := HIN.out; go_light; omega, HM2.out, KR.out.trans (by first | assumption | exact Keeps.drew (by assumption)) (fun _ _ h => h)⟩
      · have hI0 : (0 : Int) < (i : Int) := by omega
        have hd0 : decide ((0 : Int) < (i : Int)) = true := decide_eq_true hI0
        have q3 : ¬ 9223372036854775807 < g.size + 1 := by omega
        have q2 : ¬ 9223372036854775807 < g.size + 1 + S2.size := by omega
        have HM2 : Hid ((g ++ { data := #[44] } ++ S2).data.toList = s ++ 40 :: joinC (l.take (i + 1))) := Lib.hid (by rw [HNXT.out, if_neg hne, bap_list, bap_list, HG.out, HS2.out, ofL_list]; simp)
        clear hne
        go_upto_region 37 with fail
        go_region_held3 (fun w' => (w'.cell? ⟨P1, 0, none⟩ = some ((.slice (some ⟨b, off, none⟩) m c)) ∧ w'.cell? ⟨P1, 1, none⟩ = some ((.slice A' k c')) ∧ w'.cell? ⟨P2, 4, none⟩ = some (.slice (some ⟨b0, o0, none⟩) n cc) ∧ w'.cell? ⟨b0, (o0 + i), none⟩ = some (.int .i64 x)) ∧ Keeps (fun _ => False) wr w') (first | exact SK.out _ (Keeps.refl _ _) | exact SK.out _ (by assumption) | exact SK.out _ ((Keeps.refl _ _).drew) | exact SK.out _ (Keeps.drew (by assumption))) (first | (go_at_call 21; refine (CH.out _ (by first | assumption | exact (Keeps.refl _ _).drew | exact Keeps.drew (by assumption) | exact Keeps.refl _ _)).mono ?_; rintro e w3 ⟨rfl, k3⟩))
        go_wp2_with fail
        go_roundg (gk - 1)
        case measure => go_light; have h1 := HIQ.out; have h2 := HIN.out; omega
        case rel => exact ⟨i + 1, _, rfl, by go_num, by have h1 := HIQ.out; have h2 := HIN.out; go_light; omega, by have h2 := HIN.out; go_light; omega, HM2.out, KR.out.trans (by first | assumption | exact Keeps.drew (by assumption)) (fun _ _ h => h)⟩
    · obtain rfl : n = i := by omega
      have hI : ¬ (n : Int) < (n : Int) := by omega
      have hdI : decide ((n : Int) < (n : Int)) = false := decide_eq_false hI
      have q4 : ¬ 9223372036854775807 < g.size + 1 := by omega
      have HM2 : Hid (g ++ { data := #[41] } = ofL (showR (.call s l))) := Lib.hid (of_list (by
        rw [bap_list, HG.out, HNL.out, List.take_length]
        show (s ++ 40 :: joinC l) ++ [41] = s ++ 40 :: (joinC l ++ [41])
        simp))
      clear hin hin1 hgs
      go_wp2_with fail
      go_ret
      exact ⟨by (rw [HM2.out]; first | done | rfl), K2.out.trans KR.out (fun _ _ h => h)⟩
end Go.Proofs.YtgelggdgbmldiaaDoor

namespace Go.Proofs.YtgelggdgbmldiaaDoor
open Go Go.RowKit Go.Shelf
set_option linter.unusedVariables false
set_option linter.unusedSimpArgs false
theorem rexpr_all (Q : List UInt8 → Prop) (nd : List Nd) (fs : List Fnc) (A A' : Option Addr) (m k c c' : Nat) (hm : m = nd.length) : ∀ e, massE e ≤ 900000 → RXC Q nd fs A A' m k c c' e := by
  intro e
  induction e with
  | int n => intro _; exact rx_int Q nd fs A A' m k c c' hm n
  | bool b =>
    intro _
    cases b with
    | true => exact rx_bool_true Q nd fs A A' m k c c' hm
    | false => exact rx_bool_false Q nd fs A A' m k c c' hm
  | text s => intro h; exact rx_text Q nd fs A A' m k c c' hm s (by have h : s.length + 60 ≤ 900000 := h; omega)
  | var s => intro _; exact rx_var Q nd fs A A' m k c c' hm s
  | index s a ih =>
    intro h i w hw hT hR
    have h : massE a + (s.length + 60) ≤ 900000 := h
    obtain ⟨x, h1, h2, h3⟩ := hR
    have h4 := show_len a x h3
    exact rx_index Q nd fs A A' m k c c' hm s a (by omega) (ih (by omega)) i w hw hT ⟨x, h1, h2, h3⟩
  | len a ih =>
    intro h i w hw hT hR
    have h : massE a + 60 ≤ 900000 := h
    obtain ⟨x, h1, h3⟩ := hR
    have h4 := show_len a x h3
    exact rx_len Q nd fs A A' m k c c' hm a (by omega) (ih (by omega)) i w hw hT ⟨x, h1, h3⟩
  | neg a ih =>
    intro h i w hw hT hR
    have h : massE a + 60 ≤ 900000 := h
    obtain ⟨x, h1, h3⟩ := hR
    have h4 := show_len a x h3
    exact rx_neg Q nd fs A A' m k c c' hm a (by omega) (rat_any Q nd fs A A' m k c c' hm a (by omega) (ih (by omega))) i w hw hT ⟨x, h1, h3⟩
  | not a ih =>
    intro h i w hw hT hR
    have h : massE a + 60 ≤ 900000 := h
    obtain ⟨x, h1, h3⟩ := hR
    have h4 := show_len a x h3
    exact rx_not Q nd fs A A' m k c c' hm a (by omega) (rat_any Q nd fs A A' m k c c' hm a (by omega) (ih (by omega))) i w hw hT ⟨x, h1, h3⟩
  | bin s a b iha ihb =>
    intro h i w hw hT hR
    have h : massE a + massE b + (s.length + 60) ≤ 900000 := h
    obtain ⟨x, y, h1, h2, h3, h4⟩ := hR
    have h5 := show_len a x h3
    have h6 := show_len b y h4
    have ca := rat_any Q nd fs A A' m k c c' hm a (by omega) (iha (by omega))
    have cb := rat_any Q nd fs A A' m k c c' hm b (by omega) (ihb (by omega))
    by_cases h2' : lvl s = 2
    · exact rx_bin2 Q nd fs A A' m k c c' hm s a b h2' (by omega) ca cb i w hw hT ⟨x, y, h1, h2, h3, h4⟩
    · exact rx_binx Q nd fs A A' m k c c' hm s a b h2' (by omega) ca cb i w hw hT ⟨x, y, h1, h2, h3, h4⟩
theorem rright_all (Q : List UInt8 → Prop) (nd : List Nd) (fs : List Fnc) (A A' : Option Addr) (m k c c' : Nat) (hm : m = nd.length) (r : Rt) (h : massR r ≤ 900000) : RXR Q nd fs A A' m k c c' r := by
  cases r with
  | ex e => exact fun i w hw hT hR => rexpr_all Q nd fs A A' m k c c' hm e h i w hw hT hR
  | input => exact rx_input Q nd fs A A' m k c c' hm
  | new a =>
    intro i w hw hT hR
    have h : massE a + 60 ≤ 900000 := h
    obtain ⟨x, h1, h3⟩ := hR
    have h4 := show_len a x h3
    exact rx_new Q nd fs A A' m k c c' hm a (by omega) (rexpr_all Q nd fs A A' m k c c' hm a (by omega)) i w hw hT ⟨x, h1, h3⟩
  | call s l =>
    intro i w hw hT hR
    have h : massEs l + (s.length + 60) ≤ 900000 := h
    obtain ⟨xs, h1, h2, h3⟩ := hR
    have h4 := tot_mass l xs h3
    exact rx_call Q nd fs A A' m k c c' hm s l (by omega) (fun e he => rexpr_all Q nd fs A A' m k c c' hm e (by have := mass_mem l e he; omega)) i w hw hT ⟨xs, h1, h2, h3⟩
end Go.Proofs.YtgelggdgbmldiaaDoor
