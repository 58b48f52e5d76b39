/-
  Layer 3: the program's all, over strings.Join. Written by an AI agent.
  Layer 3: the program's text of an expression. Written by an AI agent.
-/
import Derived.Shelf.Strings.OnBuilder
import Derived.Test.YtgelggdgbmldiaaDoorMkao
namespace Go.Proofs.YtgelggdgbmldiaaDoor
open Go Go.RowKit Go.Shelf
set_option linter.unusedVariables false
set_option linter.unusedSimpArgs false

shelf_lay Lays.n156 Nm 156 at Tryd as laysJoin
theorem extraJoin : Builder.Extra Tryd.prog laysJoin_ren where
  sizeBuilder := by kernel_rfl
  liesBuilder := by kernel_rfl
  t5 := Tryd.underlying5
  a5 := Tryd.isAgg5
  z5 := Tryd.sizeOf5
  v5 := Tryd.zeroValue5
  infoByte := by kernel_rfl
  cellsByte := by kernel_rfl
  sizeByte := by kernel_rfl
  neB5 := by decide
theorem info_str : (Tryd.prog.info? 9).map (fun i => (i.zero, i.size, i.bytes)) = some (some (.string ⟨#[]⟩), 1, 16) := by kernel_rfl
theorem join_joinC : ∀ l : List Ex, Lib.join (l.map showE) [44] = joinC l
  | [] => rfl
  | [e] => Lib.join_one _ _
  | e :: f :: l => by
    have ih := join_joinC (f :: l)
    show List.intercalate [44] (showE e :: showE f :: l.map showE) = showE e ++ 44 :: joinC (f :: l)
    rw [← ih]
    show List.intercalate [44] (showE e :: showE f :: l.map showE) = showE e ++ 44 :: List.intercalate [44] (showE f :: l.map showE)
    simp [List.intercalate]
/-- Texts in a row. -/
def valS (l : List Ex) : List Value := l.map fun e => .string (ofL (showE e))
/-- Join, of a row of texts. -/
theorem joinE_any (l : List Ex) (hlen : totC l ≤ 1000000) (base : Nat) (A : Option Addr) (n c : Nat) (w : World) (hn : n = l.length) (ho : w.ownsRow base 9 1 (.slice A n c) n (valS l)) :
    Calls Tryd.prog 66 #[.slice A n c, .string { data := #[44] }] w fun e w' => e = .returned (.string (ofL (joinC l))) ∧ Keeps (fun _ => False) w w' := by
  have hN : n ≤ 1000000 := by
    rw [hn]
    have : ∀ l : List Ex, l.length ≤ totC l := by
      intro l
      induction l with
      | nil => exact Nat.zero_le _
      | cons e l ih => show l.length + 1 ≤ ((showE e).length + 1) + totC l; omega
    exact Nat.le_trans (this l) hlen
  rcases ho.2 with ⟨e1, h1⟩ | ⟨g, cap, cur, e1, hb, hg, hcap, hmax, hsz, htk⟩
  · injection e1 with e2 e3 e4
    subst h1
    subst e2
    subst e4
    have : l = [] := List.eq_nil_of_length_eq_zero hn.symm
    subst this
    exact (Any.strings_Join_none laysJoin extraJoin none 0 { data := #[44] } w).mono fun e w' ⟨he, hw⟩ => ⟨he, by rw [hw]; exact Keeps.refl _ _⟩
  · injection e1 with e2 e3 e4
    subst e2
    subst e4
    have hlt : g < w.heap.size := by
      rcases Nat.lt_or_ge g w.heap.size with h | h
      · exact h
      · rw [Array.getElem?_eq_none h] at hg
        cases hg
    have hm : (l.map fun e => ofL (showE e)).map (fun x => x.data.toList) = l.map showE := by
      rw [List.map_map]
      exact List.map_congr_left fun e _ => ofL_list _
    have hj := join_joinC l
    have h := Any.strings_Join laysJoin extraJoin g 0 c (l.map fun e => ofL (showE e)) { data := #[44] } w (fun j x hx => by
      rw [Nat.zero_add]
      rw [List.getElem?_map] at hx
      have hjl : j < l.length := by
        rcases Nat.lt_or_ge j l.length with h | h
        · exact h
        · rw [List.getElem?_eq_none h] at hx
          cases hx
      have h3 := ho.cellAt j (by omega)
      rw [h3]
      unfold valS
      rw [List.getElem?_map]
      cases he : l[j]? with
      | none => rw [he] at hx; cases hx
      | some e =>
        rw [he] at hx
        have hx : ofL (showE e) = x := Option.some.inj hx
        rw [← hx]
        rfl) hlt (by rw [List.length_map]; omega) (by rw [List.length_map]; omega) (by
      rw [hm]
      show (Lib.join (l.map showE) [44]).length ≤ _
      rw [hj]
      have := joinC_le l
      omega)
    rw [hm] at h
    rw [List.length_map, ← hn] at h
    refine h.mono fun e w' ⟨he, hw⟩ => ⟨?_, Keeps.ofBelow hw⟩
    rw [he]
    show Ending.returned (.string ⟨(Lib.join (l.map showE) [44]).toArray⟩) = _
    rw [hj]
    rfl
set_option maxRecDepth 100000 in
set_option maxHeartbeats 16000000 in
theorem all_texts (Q : List UInt8 → Prop) (nd : List Nd) (fs : List Fnc) (A A' : Option Addr) (m k c c' : Nat) (hm : m = nd.length) (l : List Ex) (xs : List Int) (hlen : totC l ≤ 1000000) (hc : ∀ e ∈ l, PXC Q nd fs A A' m k c c' e) (a : Option Addr) (n cc : Nat) (hn : n = xs.length) (hx : RepEs Q nd l xs) (w : World) (hw : ShW w) (hT : TreeR 0 w A A' nd fs) (hr : RdI w a xs) :
    Calls Tryd.prog 34 #[.agg #[.slice A m c, .slice A' k c'], .slice a n cc] w fun r w' => r = .returned (.string (ofL (joinC l))) ∧ Keeps (fun _ => False) w w' := by
  obtain ⟨hxl, hxx⟩ := repEs_at hx
  have HX := Lib.hid hxx
  have HNL : Hid (n = l.length) := Lib.hid (by rw [hn, hxl])
  have HNX := Lib.hid hn
  have HL := Lib.hid hlen
  have HC := Lib.hid hc
  have HW := Lib.hid hw
  have HT := Lib.hid hT
  have HR := Lib.hid hr
  have hn6 : n ≤ 999990 ∨ 999990 < n := by omega
  have hn7 : n ≤ 1000000 := by
    rw [HNL.out]
    have : ∀ l : List Ex, l.length ≤ totC l := by
      intro l
      induction l with
      | nil => exact Nat.zero_le _
      | cons e l ih => show l.length + 1 ≤ ((showE e).length + 1) + totC l; omega
    exact Nat.le_trans (this l) hlen
  obtain ⟨i0, hi0, hz0, hz1, hz2⟩ := info_parts info_str
  clear hxl hxx hx hn hlen hc hw hT hr hm hn6
  go_enter Tryd.func34, Tryd.ntmps34
  go_upto_region 1 with fail
  have ka := Keeps.one w (.cells #[.slice A m c, .slice A' k c'] 27)
  obtain ⟨P1, hP⟩ : ∃ X, X = w.heap.size := ⟨_, rfl⟩
  obtain ⟨w1, hw1⟩ : ∃ w1, w1 = w.alloc (.cells #[.slice A m c, .slice A' k c'] 27) := ⟨_, rfl⟩
  have HX1 : Hid (Loc w1 (fun _ => False) P1 [.slice A m c, .slice A' k c']) := Lib.hid (by rw [hw1, hP]; exact Loc.new (fun h => h) [.slice A m c, .slice A' k c'] 27)
  rw [← hP]
  rw [← hw1] at ka ⊢
  have K1 := Lib.hid ka
  have HT1 := Lib.hid (HT.out.keep ka)
  have HR1 := Lib.hid (HR.out.keep ka (fun _ _ _ _ h => h))
  clear ka hw1 hP HT HR
  go_upto_region 3 with fail
  go_loopg [5, 7, 10] (n + 1) (fun q s5 s7 s10 wr => ∃ (i : Nat) (A5 : Option Addr) (c5 : Nat), s5 = .slice A5 i c5 ∧ s10 = .int .i64 i ∧ i + q = n + 1 ∧ i ≤ n ∧ wr.ownsRow w1.heap.size 9 1 (.slice A5 i c5) i (valS (l.take i)) ∧ Keeps (fun _ => False) w1 wr)
  case atStart => exact ⟨0, none, 0, rfl, rfl, by omega, by omega, World.ownsRow_nil _ _ _ _, Keeps.refl _ _⟩
  case round =>
    obtain ⟨i, A5, c5, rfl, rfl, hiq, hin1, ho, kr⟩ := hrel
    have KR := Lib.hid kr
    have HIQ := Lib.hid hiq
    have HO := Lib.hid ho
    have x0 := (HX1.out.keeps kr).cells 0 _ rfl
    have x1 := (HX1.out.keeps kr).cells 1 _ rfl
    have HTr := Lib.hid (HT1.out.keep kr)
    have HRr := Lib.hid (HR1.out.keep kr (fun _ _ _ _ h => h))
    clear hiq ho kr
    by_cases hin : i < n
    · have hI : (i : Int) < (n : Int) := by omega
      have hdI : decide ((i : Int) < (n : Int)) = true := decide_eq_true hI
      have hi00 : (0 : Int) ≤ (i : Int) := by omega
      have wi : IntKind.i64.wrap ((i : Int) + 1) = (i : Int) + 1 := IntWalk.i64_in _ (by omega)
      have HIN := Lib.hid hin
      have hil : i < l.length := by rw [← HNL.out]; exact hin
      obtain ⟨x, hx1, hx2⟩ := HX.out i hil
      obtain ⟨b0, o0, rfl, kc⟩ := HRr.out.get (k := i) (by rw [← HNX.out]; exact hin) hx1
      obtain ⟨e, he⟩ : ∃ e, e = l[i] := ⟨_, rfl⟩
      rw [← he] at hx2
      have hem : e ∈ l := by rw [he]; exact List.getElem_mem _
      have HNXT : Hid (valS (l.take (i + 1)) = valS (l.take i) ++ [.string (ofL (showE e))]) := Lib.hid (by
        unfold valS
        rw [List.take_succ_eq_append_getElem hil, List.map_append, he]
        rfl)
      have CH := Lib.hid (HC.out e hem x wr (HW.out.keep (K1.out.trans KR.out (fun _ _ h => h))) HTr.out hx2)
      obtain ⟨S2, hS2⟩ : ∃ S, S = ofL (showE e) := ⟨_, rfl⟩
      rw [← hS2] at CH HNXT
      have hn9 : i + 1 ≤ 1000000 := by omega
      clear hx1 hx2 he hem hil hin hS2
      go_wp2_with fail
      refine CH.out.mono ?_
      rintro r w4 ⟨rfl, k4⟩
      have K4 := Lib.hid (KR.out.trans k4 (fun _ _ h => h))
      have HO4 := Lib.hid (ownsRow_keep HO.out (fun g hg => k4.block g (own_ltk HO.out hg) (fun h => h)))
      have HSZ : Hid (w1.heap.size ≤ w4.heap.size) := Lib.hid K4.out.size
      clear k4 CH x0 x1 kc HO KR
      go_wp2_with (at_builtin; refine wpList_append_atk rfl (.tmp 14) (.tmp 18) 41 rfl w1.heap.size 9 i0 _ 1 16 Tryd.underlying41 hi0 hz0 hz1 hz2 (by rfl) (by omega) (.slice A5 i c5) i (valS (l.take i)) (by rfl) (ownsRow_keep HO4.out (fun g hg => (Keeps.one w4 _).block g (own_ltk HO4.out hg) (fun h => h))) ⟨w4.heap.size, 0, none⟩ 1 1 [.string S2] (by rfl) (by rfl) (newsG [.string S2] _) (fun u hu => by rw [List.mem_singleton.1 hu]; rfl) (by omega) (by omega) (Nat.le_trans HSZ.out (Keeps.one w4 _).size) ?_; intro v5 w5 h5 g5 b5; obtain ⟨A6, c6, rfl⟩ := own_formk h5; have HO5 : Hid (w5.ownsRow w1.heap.size 9 1 (.slice A6 (i + 1) c6) (i + 1) (valS (l.take (i + 1)))) := Lib.hid (by rw [HNXT.out]; exact h5); have K5 : Hid (Keeps (fun _ => False) w1 w5) := Lib.hid ((K4.out.trans (Keeps.one w4 _) (fun _ _ h => h)).grown g5 (fun kk hk hlt => by have := (HO4.out.lt kk hk).1; omega)); clear h5 g5 b5 HO4 K4)
      go_roundg (gk - 1)
      case measure => go_light; have h1 := HIQ.out; have h2 := HIN.out; omega
      case rel => exact ⟨i + 1, A6, c6, rfl, by go_num, by have h1 := HIQ.out; have h2 := HIN.out; go_light; omega, by have h2 := HIN.out; go_light; omega, HO5.out, K5.out⟩
    · obtain rfl : n = i := by omega
      have hI : ¬ (n : Int) < (n : Int) := by omega
      have hdI : decide ((n : Int) < (n : Int)) = false := decide_eq_false hI
      have JC := Lib.hid (joinE_any l HL.out w1.heap.size A5 n c5 wr HNL.out (by have h := HO.out; rw [show l.take n = l by rw [HNL.out]; exact List.take_length] at h; exact h))
      clear hin hin1
      go_wp2_with fail
      refine JC.out.mono ?_
      rintro r w4 ⟨rfl, k4⟩
      have K4 := Lib.hid (KR.out.trans k4 (fun _ _ h => h))
      clear k4 JC
      go_wp2_with fail
      go_ret
      exact ⟨rfl, K1.out.trans K4.out (fun _ _ h => h)⟩
end Go.Proofs.YtgelggdgbmldiaaDoor

namespace Go.Proofs.YtgelggdgbmldiaaDoor
open Go Go.RowKit Go.Shelf
set_option linter.unusedVariables false
set_option linter.unusedSimpArgs false
set_option maxRecDepth 100000 in
set_option maxHeartbeats 16000000 in
theorem px_var (Q : List UInt8 → Prop) (nd : List Nd) (fs : List Fnc) (A A' : Option Addr) (m k c c' : Nat) (hm : m = nd.length) (s : List UInt8) : PXC Q nd fs A A' m k c c' (.var s) := by
  intro i w hw hT hR
  obtain ⟨ha, _⟩ := hR
  obtain ⟨j, b, off, ln, a, cc, rfl, hj, rfl, hn⟩ := hT.node ha
  rw [← hm] at hj
  have hjI : (j : Int) < (m : Int) := by omega
  have hj0 : (0 : Int) ≤ (j : Int) := by omega
  have HT := Lib.hid hT
  have HW := Lib.hid hw
  have HN := Lib.hid hn
  have HM := Lib.hid hm
  clear hT hw ha hj hm
  go_enter Tryd.func20, Tryd.ntmps20
  go_upto_region 1 with fail
  have ka := Keeps.one w (.cells #[.slice (some ⟨b, off, none⟩) m c, .slice A' k c'] 27)
  obtain ⟨P1, hP1⟩ : ∃ X, X = w.heap.size := ⟨_, rfl⟩
  obtain ⟨w1, hw1⟩ : ∃ w1, w1 = w.alloc (.cells #[.slice (some ⟨b, off, none⟩) m c, .slice A' k c'] 27) := ⟨_, rfl⟩
  have HX1 : Hid (Loc w1 (fun _ => False) P1 [.slice (some ⟨b, off, none⟩) m c, .slice A' k c']) := Lib.hid (by rw [hw1, hP1]; exact Loc.new (fun h => h) [.slice (some ⟨b, off, none⟩) m c, .slice A' k c'] 27)
  have HN1 := Lib.hid (HN.out.keep (hw1 ▸ ka))
  rw [← hP1]
  rw [← hw1] at ka ⊢
  have K1 := Lib.hid ka
  have HT1 := Lib.hid (HT.out.keep ka)
  clear ka hw1 hP1 HT HN
  have x0 := HX1.out.cells 0 _ rfl
  have x1 := HX1.out.cells 1 _ rfl
  have c0 := HN1.out.c0
  have c1 := HN1.out.c1
  have c2 := HN1.out.c2
  have c3 := HN1.out.c3
  have c4 : w1.cell? ⟨b, off + j * 5 + 4, none⟩ = some (.slice a 0 cc) := HN1.out.c4
  go_upto_region 2 with fail
  have ka := Keeps.one w1 (.cells #[.int .i64 4, .int .i64 ln, .int .i64 0, .string (ofL s), .slice a 0 cc] 33)
  obtain ⟨P2, hP2⟩ : ∃ X, X = w1.heap.size := ⟨_, rfl⟩
  obtain ⟨w2, hw2⟩ : ∃ w2, w2 = w1.alloc (.cells #[.int .i64 4, .int .i64 ln, .int .i64 0, .string (ofL s), .slice a 0 cc] 33) := ⟨_, rfl⟩
  have HY2 : Hid (Loc w2 (fun _ => False) P2 [.int .i64 4, .int .i64 ln, .int .i64 0, .string (ofL s), .slice a 0 cc]) := Lib.hid (by rw [hw2, hP2]; exact Loc.new (fun h => h) [.int .i64 4, .int .i64 ln, .int .i64 0, .string (ofL s), .slice a 0 cc] 33)
  rw [← hP2]
  rw [← hw2] at ka ⊢
  have HX2 := Lib.hid (HX1.out.keeps ka)
  have HT2 := Lib.hid (HT1.out.keep ka)
  have HN2 := Lib.hid (HN1.out.keep ka)
  have K2 := Lib.hid (K1.out.trans ka (fun _ _ h => h))
  clear ka hw2 hP2 x0 x1 c0 c1 c2 c3 c4 HX1 HT1 HN1 K1
  have x0 := HX2.out.cells 0 _ rfl
  have x1 := HX2.out.cells 1 _ rfl
  have y0 := HY2.out.cells 0 _ rfl
  have y2 := HY2.out.cells 2 _ rfl
  have y3 := HY2.out.cells 3 _ rfl
  have y4 := HY2.out.cells 4 _ rfl
  go_wp2_with fail
  go_ret
  exact ⟨rfl, K2.out⟩
set_option maxRecDepth 100000 in
set_option maxHeartbeats 16000000 in
theorem px_text (Q : List UInt8 → Prop) (nd : List Nd) (fs : List Fnc) (A A' : Option Addr) (m k c c' : Nat) (hm : m = nd.length) (s : List UInt8) (hlen : s.length ≤ 1000000) : PXC Q nd fs A A' m k c c' (.text s) := by
  intro i w hw hT hR
  obtain ⟨ha, _⟩ := hR
  obtain ⟨j, b, off, ln, a, cc, rfl, hj, rfl, hn⟩ := hT.node ha
  rw [← hm] at hj
  have hjI : (j : Int) < (m : Int) := by omega
  have hj0 : (0 : Int) ≤ (j : Int) := by omega
  have HT := Lib.hid hT
  have HW := Lib.hid hw
  have HN := Lib.hid hn
  have HM := Lib.hid hm
  clear hT hw ha hj hm
  go_enter Tryd.func20, Tryd.ntmps20
  go_upto_region 1 with fail
  have ka := Keeps.one w (.cells #[.slice (some ⟨b, off, none⟩) m c, .slice A' k c'] 27)
  obtain ⟨P1, hP1⟩ : ∃ X, X = w.heap.size := ⟨_, rfl⟩
  obtain ⟨w1, hw1⟩ : ∃ w1, w1 = w.alloc (.cells #[.slice (some ⟨b, off, none⟩) m c, .slice A' k c'] 27) := ⟨_, rfl⟩
  have HX1 : Hid (Loc w1 (fun _ => False) P1 [.slice (some ⟨b, off, none⟩) m c, .slice A' k c']) := Lib.hid (by rw [hw1, hP1]; exact Loc.new (fun h => h) [.slice (some ⟨b, off, none⟩) m c, .slice A' k c'] 27)
  have HN1 := Lib.hid (HN.out.keep (hw1 ▸ ka))
  rw [← hP1]
  rw [← hw1] at ka ⊢
  have K1 := Lib.hid ka
  have HT1 := Lib.hid (HT.out.keep ka)
  clear ka hw1 hP1 HT HN
  have x0 := HX1.out.cells 0 _ rfl
  have x1 := HX1.out.cells 1 _ rfl
  have c0 := HN1.out.c0
  have c1 := HN1.out.c1
  have c2 := HN1.out.c2
  have c3 := HN1.out.c3
  have c4 : w1.cell? ⟨b, off + j * 5 + 4, none⟩ = some (.slice a 0 cc) := HN1.out.c4
  go_upto_region 2 with fail
  have ka := Keeps.one w1 (.cells #[.int .i64 3, .int .i64 ln, .int .i64 0, .string (ofL s), .slice a 0 cc] 33)
  obtain ⟨P2, hP2⟩ : ∃ X, X = w1.heap.size := ⟨_, rfl⟩
  obtain ⟨w2, hw2⟩ : ∃ w2, w2 = w1.alloc (.cells #[.int .i64 3, .int .i64 ln, .int .i64 0, .string (ofL s), .slice a 0 cc] 33) := ⟨_, rfl⟩
  have HY2 : Hid (Loc w2 (fun _ => False) P2 [.int .i64 3, .int .i64 ln, .int .i64 0, .string (ofL s), .slice a 0 cc]) := Lib.hid (by rw [hw2, hP2]; exact Loc.new (fun h => h) [.int .i64 3, .int .i64 ln, .int .i64 0, .string (ofL s), .slice a 0 cc] 33)
  rw [← hP2]
  rw [← hw2] at ka ⊢
  have HX2 := Lib.hid (HX1.out.keeps ka)
  have HT2 := Lib.hid (HT1.out.keep ka)
  have HN2 := Lib.hid (HN1.out.keep ka)
  have K2 := Lib.hid (K1.out.trans ka (fun _ _ h => h))
  clear ka hw2 hP2 x0 x1 c0 c1 c2 c3 c4 HX1 HT1 HN1 K1
  have x0 := HX2.out.cells 0 _ rfl
  have x1 := HX2.out.cells 1 _ rfl
  have y0 := HY2.out.cells 0 _ rfl
  have y2 := HY2.out.cells 2 _ rfl
  have y3 := HY2.out.cells 3 _ rfl
  have y4 := HY2.out.cells 4 _ rfl
  obtain ⟨S1, hS1⟩ : ∃ S, S = ofL s := ⟨_, rfl⟩
  have z1 : S1.size = s.length := by rw [hS1]; exact ofL_size _
  have HM2 : Hid (({ data := #[34] } : ByteArray) ++ S1 ++ { data := #[34] } = ofL (showE (.text s))) := Lib.hid (of_list (by rw [bap_list, bap_list, hS1, ofL_list]; rfl))
  rw [← hS1] at y3
  have q1 : ¬ 9223372036854775807 < 1 + S1.size := by omega
  have q2 : ¬ 9223372036854775807 < 1 + S1.size + 1 := by omega
  clear hS1 z1
  go_wp2_with fail
  go_ret
  exact ⟨by (rw [HM2.out]; first | done | rfl), K2.out⟩
set_option maxRecDepth 100000 in
set_option maxHeartbeats 16000000 in
theorem px_input (Q : List UInt8 → Prop) (nd : List Nd) (fs : List Fnc) (A A' : Option Addr) (m k c c' : Nat) (hm : m = nd.length)  : PXR Q nd fs A A' m k c c' (.input) := by
  intro i w hw hT hR
  have ha : At nd i 19 0 [] [] := hR
  obtain ⟨j, b, off, ln, a, cc, rfl, hj, rfl, hn⟩ := hT.node ha
  rw [← hm] at hj
  have hjI : (j : Int) < (m : Int) := by omega
  have hj0 : (0 : Int) ≤ (j : Int) := by omega
  have HT := Lib.hid hT
  have HW := Lib.hid hw
  have HN := Lib.hid hn
  have HM := Lib.hid hm
  clear hT hw ha hj hm
  go_enter Tryd.func20, Tryd.ntmps20
  go_upto_region 1 with fail
  have ka := Keeps.one w (.cells #[.slice (some ⟨b, off, none⟩) m c, .slice A' k c'] 27)
  obtain ⟨P1, hP1⟩ : ∃ X, X = w.heap.size := ⟨_, rfl⟩
  obtain ⟨w1, hw1⟩ : ∃ w1, w1 = w.alloc (.cells #[.slice (some ⟨b, off, none⟩) m c, .slice A' k c'] 27) := ⟨_, rfl⟩
  have HX1 : Hid (Loc w1 (fun _ => False) P1 [.slice (some ⟨b, off, none⟩) m c, .slice A' k c']) := Lib.hid (by rw [hw1, hP1]; exact Loc.new (fun h => h) [.slice (some ⟨b, off, none⟩) m c, .slice A' k c'] 27)
  have HN1 := Lib.hid (HN.out.keep (hw1 ▸ ka))
  rw [← hP1]
  rw [← hw1] at ka ⊢
  have K1 := Lib.hid ka
  have HT1 := Lib.hid (HT.out.keep ka)
  clear ka hw1 hP1 HT HN
  have x0 := HX1.out.cells 0 _ rfl
  have x1 := HX1.out.cells 1 _ rfl
  have c0 := HN1.out.c0
  have c1 := HN1.out.c1
  have c2 := HN1.out.c2
  have c3 := HN1.out.c3
  have c4 : w1.cell? ⟨b, off + j * 5 + 4, none⟩ = some (.slice a 0 cc) := HN1.out.c4
  go_upto_region 2 with fail
  have ka := Keeps.one w1 (.cells #[.int .i64 19, .int .i64 ln, .int .i64 0, .string (ofL []), .slice a 0 cc] 33)
  obtain ⟨P2, hP2⟩ : ∃ X, X = w1.heap.size := ⟨_, rfl⟩
  obtain ⟨w2, hw2⟩ : ∃ w2, w2 = w1.alloc (.cells #[.int .i64 19, .int .i64 ln, .int .i64 0, .string (ofL []), .slice a 0 cc] 33) := ⟨_, rfl⟩
  have HY2 : Hid (Loc w2 (fun _ => False) P2 [.int .i64 19, .int .i64 ln, .int .i64 0, .string (ofL []), .slice a 0 cc]) := Lib.hid (by rw [hw2, hP2]; exact Loc.new (fun h => h) [.int .i64 19, .int .i64 ln, .int .i64 0, .string (ofL []), .slice a 0 cc] 33)
  rw [← hP2]
  rw [← hw2] at ka ⊢
  have HX2 := Lib.hid (HX1.out.keeps ka)
  have HT2 := Lib.hid (HT1.out.keep ka)
  have HN2 := Lib.hid (HN1.out.keep ka)
  have K2 := Lib.hid (K1.out.trans ka (fun _ _ h => h))
  clear ka hw2 hP2 x0 x1 c0 c1 c2 c3 c4 HX1 HT1 HN1 K1
  have x0 := HX2.out.cells 0 _ rfl
  have x1 := HX2.out.cells 1 _ rfl
  have y0 := HY2.out.cells 0 _ rfl
  have y2 := HY2.out.cells 2 _ rfl
  have y3 := HY2.out.cells 3 _ rfl
  have y4 := HY2.out.cells 4 _ rfl
  go_wp2_with fail
  go_ret
  exact ⟨rfl, K2.out⟩
set_option maxRecDepth 100000 in
set_option maxHeartbeats 16000000 in
theorem px_int (Q : List UInt8 → Prop) (nd : List Nd) (fs : List Fnc) (A A' : Option Addr) (m k c c' : Nat) (hm : m = nd.length) (n : Int) : PXC Q nd fs A A' m k c c' (.int n) := by
  intro i w hw hT hR
  obtain ⟨ha, hn0, hn1⟩ := hR
  obtain ⟨j, b, off, ln, a, cc, rfl, hj, rfl, hn⟩ := hT.node ha
  rw [← hm] at hj
  have hjI : (j : Int) < (m : Int) := by omega
  have hj0 : (0 : Int) ≤ (j : Int) := by omega
  have HT := Lib.hid hT
  have HW := Lib.hid hw
  have HN := Lib.hid hn
  have HM := Lib.hid hm
  clear hT hw ha hj hm
  go_enter Tryd.func20, Tryd.ntmps20
  go_upto_region 1 with fail
  have ka := Keeps.one w (.cells #[.slice (some ⟨b, off, none⟩) m c, .slice A' k c'] 27)
  obtain ⟨P1, hP1⟩ : ∃ X, X = w.heap.size := ⟨_, rfl⟩
  obtain ⟨w1, hw1⟩ : ∃ w1, w1 = w.alloc (.cells #[.slice (some ⟨b, off, none⟩) m c, .slice A' k c'] 27) := ⟨_, rfl⟩
  have HX1 : Hid (Loc w1 (fun _ => False) P1 [.slice (some ⟨b, off, none⟩) m c, .slice A' k c']) := Lib.hid (by rw [hw1, hP1]; exact Loc.new (fun h => h) [.slice (some ⟨b, off, none⟩) m c, .slice A' k c'] 27)
  have HN1 := Lib.hid (HN.out.keep (hw1 ▸ ka))
  rw [← hP1]
  rw [← hw1] at ka ⊢
  have K1 := Lib.hid ka
  have HT1 := Lib.hid (HT.out.keep ka)
  clear ka hw1 hP1 HT HN
  have x0 := HX1.out.cells 0 _ rfl
  have x1 := HX1.out.cells 1 _ rfl
  have c0 := HN1.out.c0
  have c1 := HN1.out.c1
  have c2 := HN1.out.c2
  have c3 := HN1.out.c3
  have c4 : w1.cell? ⟨b, off + j * 5 + 4, none⟩ = some (.slice a 0 cc) := HN1.out.c4
  go_upto_region 2 with fail
  have ka := Keeps.one w1 (.cells #[.int .i64 1, .int .i64 ln, .int .i64 n, .string (ofL []), .slice a 0 cc] 33)
  obtain ⟨P2, hP2⟩ : ∃ X, X = w1.heap.size := ⟨_, rfl⟩
  obtain ⟨w2, hw2⟩ : ∃ w2, w2 = w1.alloc (.cells #[.int .i64 1, .int .i64 ln, .int .i64 n, .string (ofL []), .slice a 0 cc] 33) := ⟨_, rfl⟩
  have HY2 : Hid (Loc w2 (fun _ => False) P2 [.int .i64 1, .int .i64 ln, .int .i64 n, .string (ofL []), .slice a 0 cc]) := Lib.hid (by rw [hw2, hP2]; exact Loc.new (fun h => h) [.int .i64 1, .int .i64 ln, .int .i64 n, .string (ofL []), .slice a 0 cc] 33)
  rw [← hP2]
  rw [← hw2] at ka ⊢
  have HX2 := Lib.hid (HX1.out.keeps ka)
  have HT2 := Lib.hid (HT1.out.keep ka)
  have HN2 := Lib.hid (HN1.out.keep ka)
  have K2 := Lib.hid (K1.out.trans ka (fun _ _ h => h))
  clear ka hw2 hP2 x0 x1 c0 c1 c2 c3 c4 HX1 HT1 HN1 K1
  have x0 := HX2.out.cells 0 _ rfl
  have x1 := HX2.out.cells 1 _ rfl
  have y0 := HY2.out.cells 0 _ rfl
  have y2 := HY2.out.cells 2 _ rfl
  have y3 := HY2.out.cells 3 _ rfl
  have y4 := HY2.out.cells 4 _ rfl
  have IC := Lib.hid (fun (w' : World) (q : Keeps (fun _ => False) w2 w') => itoa_any n hn0 hn1 w' (HW.out.keep (K2.out.trans q (fun _ _ h => h))))
  clear hn0 hn1
  go_wp2_with (first | (go_at_call 32; refine (IC.out _ (Keeps.refl _ _)).mono ?_; rintro e w3 ⟨rfl, k3⟩))
  go_ret
  exact ⟨rfl, K2.out.trans k3 (fun _ _ h => h)⟩
set_option maxHeartbeats 4000000 in
theorem ifb_true (w : World) : Calls Tryd.prog 65 #[.bool true] w fun r w' => r = .returned (.string { data := #[116, 114, 117, 101] }) ∧ w' = w := by
  go_enter Tryd.func65, Tryd.ntmps65
  go_wp2_with fail
  go_ret
  exact ⟨rfl, rfl⟩
theorem fb_true (w : World) : Calls Tryd.prog 33 #[.bool true] w fun r w' => r = .returned (.string { data := #[116, 114, 117, 101] }) ∧ w' = w := by
  go_enter Tryd.func33, Tryd.ntmps33
  go_wp2_with (first | (go_at_call 65; refine (ifb_true _).mono ?_; rintro e w3 ⟨rfl, rfl⟩))
  go_ret
  exact ⟨rfl, rfl⟩
set_option maxRecDepth 100000 in
set_option maxHeartbeats 16000000 in
theorem px_bool_true (Q : List UInt8 → Prop) (nd : List Nd) (fs : List Fnc) (A A' : Option Addr) (m k c c' : Nat) (hm : m = nd.length)  : PXC Q nd fs A A' m k c c' (.bool true) := by
  intro i w hw hT hR
  have ha : At nd i 2 1 [] [] := hR
  obtain ⟨j, b, off, ln, a, cc, rfl, hj, rfl, hn⟩ := hT.node ha
  rw [← hm] at hj
  have hjI : (j : Int) < (m : Int) := by omega
  have hj0 : (0 : Int) ≤ (j : Int) := by omega
  have HT := Lib.hid hT
  have HW := Lib.hid hw
  have HN := Lib.hid hn
  have HM := Lib.hid hm
  clear hT hw ha hj hm
  go_enter Tryd.func20, Tryd.ntmps20
  go_upto_region 1 with fail
  have ka := Keeps.one w (.cells #[.slice (some ⟨b, off, none⟩) m c, .slice A' k c'] 27)
  obtain ⟨P1, hP1⟩ : ∃ X, X = w.heap.size := ⟨_, rfl⟩
  obtain ⟨w1, hw1⟩ : ∃ w1, w1 = w.alloc (.cells #[.slice (some ⟨b, off, none⟩) m c, .slice A' k c'] 27) := ⟨_, rfl⟩
  have HX1 : Hid (Loc w1 (fun _ => False) P1 [.slice (some ⟨b, off, none⟩) m c, .slice A' k c']) := Lib.hid (by rw [hw1, hP1]; exact Loc.new (fun h => h) [.slice (some ⟨b, off, none⟩) m c, .slice A' k c'] 27)
  have HN1 := Lib.hid (HN.out.keep (hw1 ▸ ka))
  rw [← hP1]
  rw [← hw1] at ka ⊢
  have K1 := Lib.hid ka
  have HT1 := Lib.hid (HT.out.keep ka)
  clear ka hw1 hP1 HT HN
  have x0 := HX1.out.cells 0 _ rfl
  have x1 := HX1.out.cells 1 _ rfl
  have c0 := HN1.out.c0
  have c1 := HN1.out.c1
  have c2 := HN1.out.c2
  have c3 := HN1.out.c3
  have c4 : w1.cell? ⟨b, off + j * 5 + 4, none⟩ = some (.slice a 0 cc) := HN1.out.c4
  go_upto_region 2 with fail
  have ka := Keeps.one w1 (.cells #[.int .i64 2, .int .i64 ln, .int .i64 1, .string (ofL []), .slice a 0 cc] 33)
  obtain ⟨P2, hP2⟩ : ∃ X, X = w1.heap.size := ⟨_, rfl⟩
  obtain ⟨w2, hw2⟩ : ∃ w2, w2 = w1.alloc (.cells #[.int .i64 2, .int .i64 ln, .int .i64 1, .string (ofL []), .slice a 0 cc] 33) := ⟨_, rfl⟩
  have HY2 : Hid (Loc w2 (fun _ => False) P2 [.int .i64 2, .int .i64 ln, .int .i64 1, .string (ofL []), .slice a 0 cc]) := Lib.hid (by rw [hw2, hP2]; exact Loc.new (fun h => h) [.int .i64 2, .int .i64 ln, .int .i64 1, .string (ofL []), .slice a 0 cc] 33)
  rw [← hP2]
  rw [← hw2] at ka ⊢
  have HX2 := Lib.hid (HX1.out.keeps ka)
  have HT2 := Lib.hid (HT1.out.keep ka)
  have HN2 := Lib.hid (HN1.out.keep ka)
  have K2 := Lib.hid (K1.out.trans ka (fun _ _ h => h))
  clear ka hw2 hP2 x0 x1 c0 c1 c2 c3 c4 HX1 HT1 HN1 K1
  have x0 := HX2.out.cells 0 _ rfl
  have x1 := HX2.out.cells 1 _ rfl
  have y0 := HY2.out.cells 0 _ rfl
  have y2 := HY2.out.cells 2 _ rfl
  have y3 := HY2.out.cells 3 _ rfl
  have y4 := HY2.out.cells 4 _ rfl
  go_wp2_with (first | (go_at_call 33; refine (fb_true _).mono ?_; rintro e w3 ⟨rfl, rfl⟩))
  go_ret
  exact ⟨rfl, K2.out⟩
set_option maxHeartbeats 4000000 in
theorem ifb_false (w : World) : Calls Tryd.prog 65 #[.bool false] w fun r w' => r = .returned (.string { data := #[102, 97, 108, 115, 101] }) ∧ w' = w := by
  go_enter Tryd.func65, Tryd.ntmps65
  go_wp2_with fail
  go_ret
  exact ⟨rfl, rfl⟩
theorem fb_false (w : World) : Calls Tryd.prog 33 #[.bool false] w fun r w' => r = .returned (.string { data := #[102, 97, 108, 115, 101] }) ∧ w' = w := by
  go_enter Tryd.func33, Tryd.ntmps33
  go_wp2_with (first | (go_at_call 65; refine (ifb_false _).mono ?_; rintro e w3 ⟨rfl, rfl⟩))
  go_ret
  exact ⟨rfl, rfl⟩
set_option maxRecDepth 100000 in
set_option maxHeartbeats 16000000 in
theorem px_bool_false (Q : List UInt8 → Prop) (nd : List Nd) (fs : List Fnc) (A A' : Option Addr) (m k c c' : Nat) (hm : m = nd.length)  : PXC Q nd fs A A' m k c c' (.bool false) := by
  intro i w hw hT hR
  have ha : At nd i 2 0 [] [] := hR
  obtain ⟨j, b, off, ln, a, cc, rfl, hj, rfl, hn⟩ := hT.node ha
  rw [← hm] at hj
  have hjI : (j : Int) < (m : Int) := by omega
  have hj0 : (0 : Int) ≤ (j : Int) := by omega
  have HT := Lib.hid hT
  have HW := Lib.hid hw
  have HN := Lib.hid hn
  have HM := Lib.hid hm
  clear hT hw ha hj hm
  go_enter Tryd.func20, Tryd.ntmps20
  go_upto_region 1 with fail
  have ka := Keeps.one w (.cells #[.slice (some ⟨b, off, none⟩) m c, .slice A' k c'] 27)
  obtain ⟨P1, hP1⟩ : ∃ X, X = w.heap.size := ⟨_, rfl⟩
  obtain ⟨w1, hw1⟩ : ∃ w1, w1 = w.alloc (.cells #[.slice (some ⟨b, off, none⟩) m c, .slice A' k c'] 27) := ⟨_, rfl⟩
  have HX1 : Hid (Loc w1 (fun _ => False) P1 [.slice (some ⟨b, off, none⟩) m c, .slice A' k c']) := Lib.hid (by rw [hw1, hP1]; exact Loc.new (fun h => h) [.slice (some ⟨b, off, none⟩) m c, .slice A' k c'] 27)
  have HN1 := Lib.hid (HN.out.keep (hw1 ▸ ka))
  rw [← hP1]
  rw [← hw1] at ka ⊢
  have K1 := Lib.hid ka
  have HT1 := Lib.hid (HT.out.keep ka)
  clear ka hw1 hP1 HT HN
  have x0 := HX1.out.cells 0 _ rfl
  have x1 := HX1.out.cells 1 _ rfl
  have c0 := HN1.out.c0
  have c1 := HN1.out.c1
  have c2 := HN1.out.c2
  have c3 := HN1.out.c3
  have c4 : w1.cell? ⟨b, off + j * 5 + 4, none⟩ = some (.slice a 0 cc) := HN1.out.c4
  go_upto_region 2 with fail
  have ka := Keeps.one w1 (.cells #[.int .i64 2, .int .i64 ln, .int .i64 0, .string (ofL []), .slice a 0 cc] 33)
  obtain ⟨P2, hP2⟩ : ∃ X, X = w1.heap.size := ⟨_, rfl⟩
  obtain ⟨w2, hw2⟩ : ∃ w2, w2 = w1.alloc (.cells #[.int .i64 2, .int .i64 ln, .int .i64 0, .string (ofL []), .slice a 0 cc] 33) := ⟨_, rfl⟩
  have HY2 : Hid (Loc w2 (fun _ => False) P2 [.int .i64 2, .int .i64 ln, .int .i64 0, .string (ofL []), .slice a 0 cc]) := Lib.hid (by rw [hw2, hP2]; exact Loc.new (fun h => h) [.int .i64 2, .int .i64 ln, .int .i64 0, .string (ofL []), .slice a 0 cc] 33)
  rw [← hP2]
  rw [← hw2] at ka ⊢
  have HX2 := Lib.hid (HX1.out.keeps ka)
  have HT2 := Lib.hid (HT1.out.keep ka)
  have HN2 := Lib.hid (HN1.out.keep ka)
  have K2 := Lib.hid (K1.out.trans ka (fun _ _ h => h))
  clear ka hw2 hP2 x0 x1 c0 c1 c2 c3 c4 HX1 HT1 HN1 K1
  have x0 := HX2.out.cells 0 _ rfl
  have x1 := HX2.out.cells 1 _ rfl
  have y0 := HY2.out.cells 0 _ rfl
  have y2 := HY2.out.cells 2 _ rfl
  have y3 := HY2.out.cells 3 _ rfl
  have y4 := HY2.out.cells 4 _ rfl
  go_wp2_with (first | (go_at_call 33; refine (fb_false _).mono ?_; rintro e w3 ⟨rfl, rfl⟩))
  go_ret
  exact ⟨rfl, K2.out⟩
end Go.Proofs.YtgelggdgbmldiaaDoor
