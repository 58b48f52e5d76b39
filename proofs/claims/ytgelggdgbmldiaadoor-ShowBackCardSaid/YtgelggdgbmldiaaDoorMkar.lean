/-
  Layer 3: the program's text of an expression. Written by an AI agent.
-/
import Derived.Test.YtgelggdgbmldiaaDoorMkap
import Derived.Test.YtgelggdgbmldiaaDoorMkaq
namespace Go.Proofs.YtgelggdgbmldiaaDoor
open Go Go.RowKit Go.Shelf
set_option linter.unusedVariables false
set_option linter.unusedSimpArgs false
set_option maxRecDepth 100000 in
set_option maxHeartbeats 16000000 in
theorem px_call (Q : List UInt8 → Prop) (nd : List Nd) (fs : List Fnc) (A A' : Option Addr) (m k c c' : Nat) (hm : m = nd.length) (s : List UInt8) (l : List Ex) (hlen : s.length + totC l ≤ 1000000) (hc : ∀ e ∈ l, PXC Q nd fs A A' m k c c' e) : PXR Q nd fs A A' m k c c' (.call s l) := by
  have HL := Lib.hid hlen
  have HC := Lib.hid hc
  clear hlen hc
  intro i w hw hT hR
  obtain ⟨xs, ha, _, hx⟩ := hR
  obtain ⟨j, b, off, ln, a, cc, rfl, hj, rfl, hn⟩ := hT.node ha
  rw [← hm] at hj
  have hjI : (j : Int) < (m : Int) := by omega
  have hj0 : (0 : Int) ≤ (j : Int) := by omega
  obtain ⟨n, hn2⟩ : ∃ n, n = xs.length := ⟨_, rfl⟩
  have HNX := Lib.hid hn2
  have HX := Lib.hid hx
  clear hx hn2
  have HT := Lib.hid hT
  have HW := Lib.hid hw
  have HN := Lib.hid hn
  have HM := Lib.hid hm
  clear hT hw ha hj hm
  go_enter Tryd.func20, Tryd.ntmps20
  go_upto_region 1 with fail
  have ka := Keeps.one w (.cells #[.slice (some ⟨b, off, none⟩) m c, .slice A' k c'] 27)
  obtain ⟨P1, hP1⟩ : ∃ X, X = w.heap.size := ⟨_, rfl⟩
  obtain ⟨w1, hw1⟩ : ∃ w1, w1 = w.alloc (.cells #[.slice (some ⟨b, off, none⟩) m c, .slice A' k c'] 27) := ⟨_, rfl⟩
  have HX1 : Hid (Loc w1 (fun _ => False) P1 [.slice (some ⟨b, off, none⟩) m c, .slice A' k c']) := Lib.hid (by rw [hw1, hP1]; exact Loc.new (fun h => h) [.slice (some ⟨b, off, none⟩) m c, .slice A' k c'] 27)
  have HN1 := Lib.hid (HN.out.keep (hw1 ▸ ka))
  rw [← hP1]
  rw [← hw1] at ka ⊢
  have K1 := Lib.hid ka
  have HT1 := Lib.hid (HT.out.keep ka)
  clear ka hw1 hP1 HT HN
  have x0 := HX1.out.cells 0 _ rfl
  have x1 := HX1.out.cells 1 _ rfl
  have c0 := HN1.out.c0
  have c1 := HN1.out.c1
  have c2 := HN1.out.c2
  have c3 := HN1.out.c3
  have c4 := HN1.out.c4
  rw [← HNX.out] at c4
  go_upto_region 2 with fail
  have ka := Keeps.one w1 (.cells #[.int .i64 21, .int .i64 ln, .int .i64 0, .string (ofL s), .slice a n cc] 33)
  obtain ⟨P2, hP2⟩ : ∃ X, X = w1.heap.size := ⟨_, rfl⟩
  obtain ⟨w2, hw2⟩ : ∃ w2, w2 = w1.alloc (.cells #[.int .i64 21, .int .i64 ln, .int .i64 0, .string (ofL s), .slice a n cc] 33) := ⟨_, rfl⟩
  have HY2 : Hid (Loc w2 (fun _ => False) P2 [.int .i64 21, .int .i64 ln, .int .i64 0, .string (ofL s), .slice a n cc]) := Lib.hid (by rw [hw2, hP2]; exact Loc.new (fun h => h) [.int .i64 21, .int .i64 ln, .int .i64 0, .string (ofL s), .slice a n cc] 33)
  rw [← hP2]
  rw [← hw2] at ka ⊢
  have HX2 := Lib.hid (HX1.out.keeps ka)
  have HT2 := Lib.hid (HT1.out.keep ka)
  have HN2 := Lib.hid (HN1.out.keep ka)
  have K2 := Lib.hid (K1.out.trans ka (fun _ _ h => h))
  clear ka hw2 hP2 x0 x1 c0 c1 c2 c3 c4 HX1 HT1 HN1 K1
  have x0 := HX2.out.cells 0 _ rfl
  have x1 := HX2.out.cells 1 _ rfl
  have y0 := HY2.out.cells 0 _ rfl
  have y2 := HY2.out.cells 2 _ rfl
  have y3 := HY2.out.cells 3 _ rfl
  have y4 := HY2.out.cells 4 _ rfl
  obtain ⟨S1, hS1⟩ : ∃ S, S = ofL s := ⟨_, rfl⟩
  have z1 : S1.size = s.length := by rw [hS1]; exact ofL_size _
  have HS1 := Lib.hid hS1
  rw [← hS1] at y3
  obtain ⟨S2, hS2⟩ : ∃ S, S = ofL (joinC l) := ⟨_, rfl⟩
  have z2 : S2.size ≤ totC l := by rw [hS2, ofL_size]; exact joinC_le l
  have HS2 := Lib.hid hS2
  have CH : Hid (∀ w', Keeps (fun _ => False) w2 w' → Calls Tryd.prog 34 #[.agg #[.slice (some ⟨b, off, none⟩) m c, .slice A' k c'], .slice a n cc] w' fun r w'' => r = .returned (.string S2) ∧ Keeps (fun _ => False) w2 w'') := Lib.hid (fun w' q => by
    rw [HS2.out]
    exact (all_texts Q nd fs _ A' m k c c' HM.out l xs (by have := HL.out; omega) HC.out a n cc HNX.out HX.out w' (HW.out.keep (K2.out.trans q (fun _ _ h => h))) (HT2.out.keep q) (HN2.out.ro.keep q (fun _ _ _ _ h => h))).mono fun r w'' ⟨h1, h2⟩ => ⟨h1, q.trans h2 (fun _ _ h => h)⟩)
  have q0 : ¬ 9223372036854775807 < S1.size + 1 := by have := HL.out; omega
  have q1 : ¬ 9223372036854775807 < S1.size + 1 + S2.size := by have := HL.out; omega
  have q2 : ¬ 9223372036854775807 < S1.size + 1 + S2.size + 1 := by have := HL.out; omega
  have HM2 : Hid (S1 ++ { data := #[40] } ++ S2 ++ { data := #[41] } = ofL (showR (.call s l))) := Lib.hid (of_list (by rw [HS1.out, HS2.out]; simp [bap_list, ofL_list, showR]; done))
  have SK : Hid (∀ w', Keeps (fun _ => False) w2 w' → (w'.cell? ⟨P1, 0, none⟩ = some ((.slice (some ⟨b, off, none⟩) m c)) ∧ w'.cell? ⟨P1, 1, none⟩ = some ((.slice A' k c')) ∧ w'.cell? ⟨P2, 3, none⟩ = some (.string S1) ∧ w'.cell? ⟨P2, 4, none⟩ = some (.slice a n cc)) ∧ Keeps (fun _ => False) w2 w') := Lib.hid (fun w' q => ⟨⟨(q.cell (cell_ltk x0) (fun h => h)).trans x0, (q.cell (cell_ltk x1) (fun h => h)).trans x1, (q.cell (cell_ltk y3) (fun h => h)).trans y3, (q.cell (cell_ltk y4) (fun h => h)).trans y4⟩, q⟩)
  clear hS1 hS2 z1 z2
  go_upto_region 31 with fail
  go_region_held3 (fun w' => (w'.cell? ⟨P1, 0, none⟩ = some ((.slice (some ⟨b, off, none⟩) m c)) ∧ w'.cell? ⟨P1, 1, none⟩ = some ((.slice A' k c')) ∧ w'.cell? ⟨P2, 3, none⟩ = some (.string S1) ∧ w'.cell? ⟨P2, 4, none⟩ = some (.slice a n cc)) ∧ Keeps (fun _ => False) w2 w') (first | exact SK.out _ (Keeps.refl _ _) | exact SK.out _ (by assumption) | exact SK.out _ ((Keeps.refl _ _).drew) | exact SK.out _ (Keeps.drew (by assumption))) (first | (go_at_call 34; refine (CH.out _ (by first | assumption | exact (Keeps.refl _ _).drew | exact Keeps.drew (by assumption) | exact Keeps.refl _ _)).mono ?_; rintro e w3 ⟨rfl, k3⟩))
  all_goals go_wp2_with fail
  all_goals go_ret
  all_goals exact ⟨by (rw [HM2.out]; first | done | rfl), K2.out.trans (by first | assumption | exact Keeps.drew (by assumption)) (fun _ _ h => h)⟩
theorem pexpr_all (Q : List UInt8 → Prop) (nd : List Nd) (fs : List Fnc) (A A' : Option Addr) (m k c c' : Nat) (hm : m = nd.length) : ∀ e, massE e ≤ 900000 → PXC Q nd fs A A' m k c c' e := by
  intro e
  induction e with
  | int n => intro _; exact px_int Q nd fs A A' m k c c' hm n
  | bool b =>
    intro _
    cases b with
    | true => exact px_bool_true Q nd fs A A' m k c c' hm
    | false => exact px_bool_false Q nd fs A A' m k c c' hm
  | text s => intro h; exact px_text Q nd fs A A' m k c c' hm s (by have h : s.length + 60 ≤ 900000 := h; omega)
  | var s => intro _; exact px_var Q nd fs A A' m k c c' hm s
  | index s a ih =>
    intro h i w hw hT hR
    have h : massE a + (s.length + 60) ≤ 900000 := h
    obtain ⟨x, h1, h2, h3⟩ := hR
    have h4 := show_len a x h3
    exact px_index Q nd fs A A' m k c c' hm s a (by omega) (ih (by omega)) i w hw hT ⟨x, h1, h2, h3⟩
  | len a ih =>
    intro h i w hw hT hR
    have h : massE a + 60 ≤ 900000 := h
    obtain ⟨x, h1, h3⟩ := hR
    have h4 := show_len a x h3
    exact px_len Q nd fs A A' m k c c' hm a (by omega) (ih (by omega)) i w hw hT ⟨x, h1, h3⟩
  | neg a ih =>
    intro h i w hw hT hR
    have h : massE a + 60 ≤ 900000 := h
    obtain ⟨x, h1, h3⟩ := hR
    have h4 := show_len a x h3
    exact px_neg Q nd fs A A' m k c c' hm a (by omega) (ih (by omega)) i w hw hT ⟨x, h1, h3⟩
  | not a ih =>
    intro h i w hw hT hR
    have h : massE a + 60 ≤ 900000 := h
    obtain ⟨x, h1, h3⟩ := hR
    have h4 := show_len a x h3
    exact px_not Q nd fs A A' m k c c' hm a (by omega) (ih (by omega)) i w hw hT ⟨x, h1, h3⟩
  | bin s a b iha ihb =>
    intro h i w hw hT hR
    have h : massE a + massE b + (s.length + 60) ≤ 900000 := h
    obtain ⟨x, y, h1, h2, h3, h4⟩ := hR
    have h5 := show_len a x h3
    have h6 := show_len b y h4
    have ca := (iha (by omega))
    have cb := (ihb (by omega))
    by_cases h2' : lvl s = 2
    · exact px_bin2 Q nd fs A A' m k c c' hm s a b h2' (by omega) ca cb i w hw hT ⟨x, y, h1, h2, h3, h4⟩
    · exact px_binx Q nd fs A A' m k c c' hm s a b h2' (by omega) ca cb i w hw hT ⟨x, y, h1, h2, h3, h4⟩
theorem pright_all (Q : List UInt8 → Prop) (nd : List Nd) (fs : List Fnc) (A A' : Option Addr) (m k c c' : Nat) (hm : m = nd.length) (r : Rt) (h : massR r ≤ 900000) : PXR Q nd fs A A' m k c c' r := by
  cases r with
  | ex e => exact fun i w hw hT hR => pexpr_all Q nd fs A A' m k c c' hm e h i w hw hT hR
  | input => exact px_input Q nd fs A A' m k c c' hm
  | new a =>
    intro i w hw hT hR
    have h : massE a + 60 ≤ 900000 := h
    obtain ⟨x, h1, h3⟩ := hR
    have h4 := show_len a x h3
    exact px_new Q nd fs A A' m k c c' hm a (by omega) (pexpr_all Q nd fs A A' m k c c' hm a (by omega)) i w hw hT ⟨x, h1, h3⟩
  | call s l =>
    intro i w hw hT hR
    have h : massEs l + (s.length + 60) ≤ 900000 := h
    obtain ⟨xs, h1, h2, h3⟩ := hR
    have h4 := tot_mass l xs h3
    exact px_call Q nd fs A A' m k c c' hm s l (by omega) (fun e he => pexpr_all Q nd fs A A' m k c c' hm e (by have := mass_mem l e he; omega)) i w hw hT ⟨xs, h1, h2, h3⟩
end Go.Proofs.YtgelggdgbmldiaaDoor
