/-
  Layer 2: two sources, one behind the other: what a walk asks for. Written by an AI agent.
  Layer 2: ParseBoth. Written by an AI agent.
  Layer 2: ParseBoth. Written by an AI agent.
-/
import Derived.Test.YtgelggdgbmldiaaDoorMaag
import Derived.Test.YtgelggdgbmldiaaDoorMaap
import Derived.BigQuiet
import Derived.Deep.LoopGhost
import Derived.Deep.Light
namespace Go.Proofs.YtgelggdgbmldiaaDoor
set_option linter.unusedVariables false
set_option linter.unusedSimpArgs false

structure BothT (nda ndb ndx : List Nd) (fa fb fx : List Fnc) : Prop where
  nn : ndx.length = nda.length + ndb.length
  nf : fx.length = fa.length + fb.length
  nds : ∀ i (hi : i < ndb.length) (hx : nda.length + i < ndx.length), (ndx[nda.length + i]).k = (ndb[i]).k ∧ (ndx[nda.length + i]).n = (ndb[i]).n ∧ (ndx[nda.length + i]).s = (ndb[i]).s ∧ (ndx[nda.length + i]).l = (ndb[i]).l.map (fun x => x + (nda.length : Int))
  fns : ∀ i (hi : i < fb.length) (hx : fa.length + i < fx.length), (fx[fa.length + i]).s = (fb[i]).s ∧ (fx[fa.length + i]).body = (fb[i]).body + (nda.length : Int)
  many : nda.length ≤ 300 ∧ ndb.length ≤ 300 ∧ fa.length ≤ 6 ∧ fb.length ≤ 6
  kids : ∀ i (hi : i < ndb.length), (ndb[i]).l.length ≤ 300 ∧ ∀ v ∈ (ndb[i]).l, 0 ≤ v ∧ v ≤ 300
  bods : ∀ i (hi : i < fb.length), 0 ≤ (fb[i]).body ∧ (fb[i]).body ≤ 300

theorem RFs.at {ph : Int → Int} {RL : Int → Int → Prop} : ∀ {l l' : List Fnc}, RFs ph RL l l' → ∀ i (hi : i < l.length) (hx : i < l'.length), RF ph RL (l[i]) (l'[i])
  | [], [], _, i, hi, _ => absurd hi (Nat.not_lt_zero _)
  | _ :: l, _ :: l', h, 0, _, _ => h.1
  | _ :: l, _ :: l', h, i + 1, hi, hx => RFs.at h.2 i (by simpa using hi) (by simpa using hx)
  | [], _ :: _, h, _, _, _ => h.elim
  | _ :: _, [], h, _, _, _ => h.elim

theorem both_tree (a b : List UInt8) (nda ndb : List Nd) (fa fb : List Fnc) (ha : allP 6100 a = some (.inr (nda, fa))) (hb : allP 6100 b = some (.inr (ndb, fb))) (hl : (a ++ 10 :: b).length ≤ 600) :
    (allP 6100 (a ++ 10 :: b) = some (.inl (0, 4)) ∧ (300 < nda.length + ndb.length ∨ 6 < fa.length + fb.length) ∧ nda.length ≤ 300 ∧ ndb.length ≤ 300 ∧ fa.length ≤ 6 ∧ fb.length ≤ 6) ∨
    (¬ (300 < nda.length + ndb.length ∨ 6 < fa.length + fb.length) ∧ ∃ ndx fx, allP 6100 (a ++ 10 :: b) = some (.inr (ndx, fx)) ∧ BothT nda ndb ndx fa fb fx) := by
  obtain ⟨h1, h2⟩ := both_data a b nda ndb fa fb ha hb hl
  have hA := fit_of ha
  have hB := fit_of hb
  have hBt := belowT_of 6100 b ndb fb hb
  by_cases hbig : 300 < nda.length + ndb.length ∨ 6 < fa.length + fb.length
  · exact .inl ⟨h1 hbig, hbig, hA.nds, hB.nds, hA.fns, hB.fns⟩
  · right
    obtain ⟨ndx, fx, fx', h3, h4, h5, h6⟩ := h2 hbig
    refine ⟨hbig, ndx, fx ++ fx', h3, ?_⟩
    have hn : ndx.length = nda.length + ndb.length := by
      have := congrArg List.length h4
      rwa [List.length_map, List.length_append, List.length_map, List.length_map] at this
    refine ⟨hn, by rw [List.length_append, h5.len, h6.len], ?_, ?_, ⟨hA.nds, hB.nds, hA.fns, hB.fns⟩, ?_, ?_⟩
    · intro i hi hx
      have e := congrArg (fun l : List Nd => l[nda.length + i]?) h4
      simp only [List.getElem?_map] at e
      rw [List.getElem?_append_right (by rw [List.length_map]; omega), List.length_map, show nda.length + i - nda.length = i by omega, List.getElem?_map, List.getElem?_eq_getElem hx, List.getElem?_eq_getElem hi] at e
      simp only [Option.map_some, Option.some.injEq] at e
      have e1 := congrArg Nd.k e
      have e2 := congrArg Nd.n e
      have e3 := congrArg Nd.s e
      have e4 := congrArg Nd.l e
      exact ⟨e1, e2, e3, e4⟩
    · intro i hi hx
      have hx' : i < fx'.length := by rw [h6.len]; exact hi
      have e : (fx ++ fx')[fa.length + i] = fx'[i] := by
        rw [List.getElem_append_right (by rw [h5.len]; omega)]
        congr 1
        rw [h5.len]
        omega
      rw [e]
      obtain ⟨g1, _, _, _, g5⟩ := h6.at i hi hx'
      exact ⟨g1, g5⟩
    · intro i hi
      refine ⟨hB.kids _ (List.getElem_mem hi), fun v hv => ?_⟩
      obtain ⟨_, _, h7⟩ := hBt.kids i (ndb[i]) (List.getElem?_eq_getElem hi)
      obtain ⟨j, m, e1, e2, _, _⟩ := h7 v hv
      have := hB.nds
      have hi2 : i < ndb.length := hi
      have h9 : (ndsOf (.inr (ndb, fb) : Res)).length = ndb.length := rfl
      omega
    · intro i hi
      obtain ⟨j, m, e1, e2, _⟩ := hBt.bods _ (List.getElem_mem hi)
      have h8 := (List.getElem?_eq_some_iff.1 e2).1
      have := hB.nds
      have h9 : (ndsOf (.inr (ndb, fb) : Res)).length = ndb.length := rfl
      omega
/-- No error, no refusal. -/
theorem er_tree {N : Nat} {src : List UInt8} {res : Res} (h : allP N src = some res) (he : erOf res = 0) : ∃ nd fs, res = .inr (nd, fs) := by
  cases res with
  | inl pe => exact absurd he (errs_ne N src pe.1 pe.2 h)
  | inr t => exact ⟨t.1, t.2, rfl⟩
end Go.Proofs.YtgelggdgbmldiaaDoor

namespace Go.Proofs.YtgelggdgbmldiaaDoor
open Go Go.RowKit Go.Shelf
set_option linter.unusedVariables false
set_option linter.unusedSimpArgs false

theorem src_all (s : ByteArray) (hs : s.size ≤ 1000) (res : Res) (h : allP 6100 s.data.toList = some res) (w : World) (he : ErrW w) : Calls Tryd.prog 13 #[.string s] w fun e w' => ∃ A c A' c', e = .returned (.tuple #[.agg #[.slice A (ndsOf res).length c, .slice A' (fnsOf res).length c'], .int .i64 (atOf res : Int), .int .i64 (erOf res : Int)]) ∧ TreeR 0 w' A A' (ndsOf res) (fnsOf res) ∧ Keeps (fun _ => False) w w' :=
  (pall_any s hs 6100 (by omega) res h w he).mono fun e w' ⟨h1, k⟩ => by
    obtain ⟨A, c, A', c', h2, h3⟩ := treeE_all h1
    exact ⟨A, c, A', c', h2, h3, k⟩
theorem RdI.at {w : World} {a : Option Addr} {l : List Int} (h : RdI w a l) {k : Nat} (hk : k < l.length) : ∃ b off, a = some ⟨b, off, none⟩ ∧ w.cell? ⟨b, off + k, none⟩ = some (.int .i64 (l.getD k 0)) := by
  obtain ⟨b, off, e, hc⟩ := h (by omega)
  exact ⟨b, off, e, hc k hk⟩

set_option maxRecDepth 100000 in
set_option maxHeartbeats 32000000 in
theorem both_walkSS (s0 s1 : ByteArray) (h0 : ¬ 280 < s0.size) (h1 : ¬ 280 < s1.size) (w : World) (he : ErrW w) : Calls Tryd.prog 5 #[.string s0, .string s1] w fun e w' => e = .returned (.bool true) ∧ Keeps (fun _ => False) w w' := by
  have HC := Lib.hid (shown_any w he)
  have HE := Lib.hid he
  clear he
  go_enter Tryd.func5, Tryd.ntmps5
  go_wp2_with fail
  refine HC.out.mono ?_
  rintro e w1 ⟨rfl, k1⟩
  have K1 := Lib.hid k1
  clear HC k1
  have hIa : ¬ (280 : Int) < (s0.size : Int) := by omega
  have hDa : decide ((280 : Int) < (s0.size : Int)) = false := decide_eq_false hIa
  have HSA := Lib.hid (show s0.size ≤ 280 by omega)
  clear h0
  go_upto_region 4 with fail
  clear hIa hDa
  generalize s0 = a at *
  have hIb : ¬ (280 : Int) < (s1.size : Int) := by omega
  have hDb : decide ((280 : Int) < (s1.size : Int)) = false := decide_eq_false hIb
  have HSB := Lib.hid (show s1.size ≤ 280 by omega)
  clear h1
  go_upto_region 6 with fail
  clear hIb hDb
  generalize s1 = b at *
  obtain ⟨ra, hra⟩ := allP_some a.data.toList 6100 (Nat.le_refl _)
  obtain ⟨rb, hrb⟩ := allP_some b.data.toList 6100 (Nat.le_refl _)
  have HRA := Lib.hid hra
  have HRB := Lib.hid hrb
  have AC := Lib.hid (src_all a (by have := HSA.out; omega) ra hra w1 (HE.out.keep K1.out))
  have BC : Hid (∀ w3, Keeps (fun _ => False) w w3 → Calls Tryd.prog 13 #[.string b] w3 fun e w' => ∃ A c A' c', e = .returned (.tuple #[.agg #[.slice A (ndsOf rb).length c, .slice A' (fnsOf rb).length c'], .int .i64 (atOf rb : Int), .int .i64 (erOf rb : Int)]) ∧ TreeR 0 w' A A' (ndsOf rb) (fnsOf rb) ∧ Keeps (fun _ => False) w3 w') := Lib.hid fun w3 k3 => src_all b (by have := HSB.out; omega) rb hrb w3 (HE.out.keep k3)
  obtain ⟨m1, hm1⟩ : ∃ m, m = (ndsOf ra).length := ⟨_, rfl⟩
  obtain ⟨n1, hn1⟩ : ∃ m, m = (fnsOf ra).length := ⟨_, rfl⟩
  obtain ⟨m2, hm2⟩ : ∃ m, m = (ndsOf rb).length := ⟨_, rfl⟩
  obtain ⟨n2, hn2⟩ : ∃ m, m = (fnsOf rb).length := ⟨_, rfl⟩
  obtain ⟨e1, he1⟩ : ∃ m, m = erOf ra := ⟨_, rfl⟩
  obtain ⟨e2, he2⟩ : ∃ m, m = erOf rb := ⟨_, rfl⟩
  have HM1 := Lib.hid hm1
  have HN1 := Lib.hid hn1
  have HM2 := Lib.hid hm2
  have HN2 := Lib.hid hn2
  have HE1 := Lib.hid he1
  have HE2 := Lib.hid he2
  rw [← hm1, ← hn1, ← he1] at AC
  rw [← hm2, ← hn2, ← he2] at BC
  generalize (atOf ra : Int) = a1 at AC
  generalize (atOf rb : Int) = a2 at BC
  clear hm1 hn1 hm2 hn2 he1 he2 hra hrb
  go_wp2_with fail
  refine AC.out.mono ?_
  rintro e w3 ⟨A, c, A', c', rfl, -, k3⟩
  have K3 := Lib.hid (K1.out.trans k3 (fun _ _ h => h))
  clear AC K1 k3
  go_upto_region 7 with fail
  have ka := Keeps.one w3 (.cells #[.slice A m1 c, .slice A' n1 c'] 27)
  obtain ⟨P1, hP1⟩ : ∃ X, X = w3.heap.size := ⟨_, rfl⟩
  obtain ⟨w4, hw⟩ : ∃ w4, w4 = w3.alloc (.cells #[.slice A m1 c, .slice A' n1 c'] 27) := ⟨_, rfl⟩
  have HX1 : Hid (Loc w4 (fun _ => False) P1 [.slice A m1 c, .slice A' n1 c']) := Lib.hid (by rw [hw, hP1]; exact Loc.new (fun h => h) [.slice A m1 c, .slice A' n1 c'] 27)
  rw [← hP1]
  rw [← hw] at ka ⊢
  have K4 := Lib.hid (K3.out.trans ka (fun _ _ h => h))
  have BD := Lib.hid (BC.out w4 K4.out)
  clear ka hw hP1 BC K3
  go_wp2_with fail
  refine BD.out.mono ?_
  rintro e w5 ⟨B, d, B', d', rfl, hU, k5⟩
  have HX5 := Lib.hid (HX1.out.keeps k5)
  have HU5 := Lib.hid hU
  have K5 := Lib.hid (K4.out.trans k5 (fun _ _ h => h))
  clear BD k5 hU HX1 K4
  go_upto_region 8 with fail
  have ka := Keeps.one w5 (.cells #[.slice B m2 d, .slice B' n2 d'] 27)
  obtain ⟨P2, hP2⟩ : ∃ X, X = w5.heap.size := ⟨_, rfl⟩
  obtain ⟨w6, hw⟩ : ∃ w6, w6 = w5.alloc (.cells #[.slice B m2 d, .slice B' n2 d'] 27) := ⟨_, rfl⟩
  have HY6 : Hid (Loc w6 (fun _ => False) P2 [.slice B m2 d, .slice B' n2 d']) := Lib.hid (by rw [hw, hP2]; exact Loc.new (fun h => h) [.slice B m2 d, .slice B' n2 d'] 27)
  rw [← hP2]
  rw [← hw] at ka ⊢
  have HX6 := Lib.hid (HX5.out.keeps ka)
  have HU6 := Lib.hid (HU5.out.keep ka)
  have K6 := Lib.hid (K5.out.trans ka (fun _ _ h => h))
  clear ka hw hP2 HX5 HU5 K5
  by_cases hea : e1 = 0
  · by_cases heb : e2 = 0
    · subst hea
      subst heb
      obtain ⟨nda, fa, rfl⟩ := er_tree HRA.out HE1.out.symm
      obtain ⟨ndb, fb, rfl⟩ := er_tree HRB.out HE2.out.symm
      obtain ⟨Z, hZ⟩ : ∃ Z, Z = (a ++ { data := #[10] } : ByteArray) ++ b := ⟨_, rfl⟩
      have hZs : Z.size ≤ 600 := by rw [hZ, ByteArray.size_append, ByteArray.size_append]; have h1 := HSA.out; have h2 := HSB.out; show a.size + 1 + b.size ≤ 600; omega
      have hZl : Z.data.toList = a.data.toList ++ 10 :: b.data.toList := by rw [hZ]; simp [ByteArray.data_append]
      have HZ := Lib.hid hZ
      have HBT := Lib.hid (both_tree a.data.toList b.data.toList nda ndb fa fb HRA.out HRB.out (by rw [← hZl, len_size]; exact hZs))
      have q1 : ¬ 9223372036854775807 < a.size + 1 := by have h1 := HSA.out; omega
      have q2 : ¬ 9223372036854775807 < a.size + 1 + b.size := by have h1 := HSA.out; have h2 := HSB.out; omega
      rw [← hZl] at HBT
      have HZS := Lib.hid hZs
      clear hZ hZl hZs
      have L1 : Hid (m1 = nda.length ∧ n1 = fa.length ∧ m2 = ndb.length ∧ n2 = fb.length) := Lib.hid ⟨HM1.out, HN1.out, HM2.out, HN2.out⟩
      have z0 : ((0 : Nat) : Int) = 0 := rfl
      rcases HBT.out with ⟨hbig, hb2, l1, l2, l3, l4⟩ | ⟨hnb, ndx, fx, hfit, hT⟩
      · -- too big
        have PC := Lib.hid (src_all Z (by have := HZS.out; omega) _ hbig w6 (HE.out.keep K6.out))
        have HB2 : Hid ((6 : Int) < (n1 : Int) + (n2 : Int) ∨ (300 : Int) < (m1 : Int) + (m2 : Int)) := Lib.hid (by obtain ⟨g1, g2, g3, g4⟩ := L1.out; rcases hb2 with h | h <;> omega)
        have w1' := IntWalk.i64_in ((n1 : Int) + (n2 : Int)) (by obtain ⟨g1, g2, g3, g4⟩ := L1.out; omega)
        have w2' := IntWalk.i64_in ((m1 : Int) + (m2 : Int)) (by obtain ⟨g1, g2, g3, g4⟩ := L1.out; omega)
        clear hbig hb2 l1 l2 l3 l4 HBT
        go_upto_region 10 with fail
        go_wp2_with fail
        rw [← HZ.out]
        refine PC.out.mono ?_
        rintro e w7 ⟨C, f, C', f', rfl, -, k7⟩
        have HX7 := Lib.hid (HX6.out.keeps k7)
        have HY7 := Lib.hid (HY6.out.keeps k7)
        have K7 := Lib.hid (K6.out.trans k7 (fun _ _ h => h))
        have ea : (atOf (.inl (0, 4) : Res) : Int) = 0 := rfl
        have ee : (erOf (.inl (0, 4) : Res) : Int) = 4 := rfl
        have en : (ndsOf (.inl (0, 4) : Res)).length = 0 := rfl
        have ef : (fnsOf (.inl (0, 4) : Res)).length = 0 := rfl
        rw [ea, ee, en, ef]
        clear PC k7 HX6 HY6 K6 HU6
        go_upto_region 11 with fail
        have ka := Keeps.one w7 (.cells #[.slice C 0 f, .slice C' 0 f'] 27)
        obtain ⟨w8, hw⟩ : ∃ w8, w8 = w7.alloc (.cells #[.slice C 0 f, .slice C' 0 f'] 27) := ⟨_, rfl⟩
        rw [← hw] at ka ⊢
        have HX8 := Lib.hid (HX7.out.keeps ka)
        have HY8 := Lib.hid (HY7.out.keeps ka)
        have K8 := Lib.hid (K7.out.trans ka (fun _ _ h => h))
        generalize w7.heap.size = P3
        clear ka hw HX7 HY7 K7 q1 q2
        have x0 := HX8.out.cells 0 _ rfl
        have x1 := HX8.out.cells 1 _ rfl
        have y0 := HY8.out.cells 0 _ rfl
        have y1 := HY8.out.cells 1 _ rfl
        by_cases hc : (6 : Int) < (n1 : Int) + (n2 : Int)
        · have hcd : decide ((6 : Int) < (n1 : Int) + (n2 : Int)) = true := decide_eq_true hc
          clear HB2
          go_wp2_with fail
          go_ret
          exact ⟨rfl, K8.out⟩
        · have hcd : decide ((6 : Int) < (n1 : Int) + (n2 : Int)) = false := decide_eq_false hc
          have hc2 : (300 : Int) < (m1 : Int) + (m2 : Int) := HB2.out.elim (fun h => absurd h hc) (fun h => h)
          have hcd2 : decide ((300 : Int) < (m1 : Int) + (m2 : Int)) = true := decide_eq_true hc2
          clear HB2
          go_wp2_with fail
          go_ret
          exact ⟨rfl, K8.out⟩
      · have PC := Lib.hid (src_all Z (by have := HZS.out; omega) _ hfit w6 (HE.out.keep K6.out))
        have HT := Lib.hid hT
        obtain ⟨m3, hm3⟩ : ∃ m, m = (ndsOf (.inr (ndx, fx) : Res)).length := ⟨_, rfl⟩
        obtain ⟨n3, hn3⟩ : ∃ m, m = (fnsOf (.inr (ndx, fx) : Res)).length := ⟨_, rfl⟩
        rw [← hm3, ← hn3] at PC
        have L3 : Hid (m3 = m1 + m2 ∧ n3 = n1 + n2 ∧ m1 ≤ 300 ∧ m2 ≤ 300 ∧ n1 ≤ 6 ∧ n2 ≤ 6 ∧ m1 + m2 ≤ 300 ∧ n1 + n2 ≤ 6) := Lib.hid (by
          obtain ⟨g1, g2, g3, g4⟩ := L1.out
          have h1 := hT.nn
          have h2 := hT.nf
          have h3 : m3 = ndx.length := hm3
          have h4 : n3 = fx.length := hn3
          obtain ⟨g5, g6, g7, g8⟩ := hT.many
          omega)
        have HM3 : Hid (m3 = ndx.length ∧ n3 = fx.length) := Lib.hid ⟨hm3, hn3⟩
        have w1' := IntWalk.i64_in ((n1 : Int) + (n2 : Int)) (by obtain ⟨g1, g2, g3, g4, g5, g6, g7, g8⟩ := L3.out; omega)
        have w2' := IntWalk.i64_in ((m1 : Int) + (m2 : Int)) (by obtain ⟨g1, g2, g3, g4, g5, g6, g7, g8⟩ := L3.out; omega)
        have c6 : ¬ (6 : Int) < (n1 : Int) + (n2 : Int) := by obtain ⟨g1, g2, g3, g4, g5, g6, g7, g8⟩ := L3.out; omega
        have c300 : ¬ (300 : Int) < (m1 : Int) + (m2 : Int) := by obtain ⟨g1, g2, g3, g4, g5, g6, g7, g8⟩ := L3.out; omega
        have c6d : decide ((6 : Int) < (n1 : Int) + (n2 : Int)) = false := decide_eq_false c6
        have c300d : decide ((300 : Int) < (m1 : Int) + (m2 : Int)) = false := decide_eq_false c300
        have n3d : ((n3 : Int) != (n1 : Int) + (n2 : Int)) = false := by obtain ⟨g1, g2, _⟩ := L3.out; simp; omega
        have m3d : ((m3 : Int) != (m1 : Int) + (m2 : Int)) = false := by obtain ⟨g1, g2, _⟩ := L3.out; simp; omega
        clear hnb hfit hT HBT hm3 hn3
        go_upto_region 10 with fail
        go_wp2_with fail
        rw [← HZ.out]
        refine PC.out.mono ?_
        rintro e w7 ⟨C, f, C', f', rfl, hV, k7⟩
        have HX7 := Lib.hid (HX6.out.keeps k7)
        have HY7 := Lib.hid (HY6.out.keeps k7)
        have HU7 := Lib.hid (HU6.out.keep k7)
        have HV7 := Lib.hid hV
        have K7 := Lib.hid (K6.out.trans k7 (fun _ _ h => h))
        have ea : (atOf (.inr (ndx, fx) : Res) : Int) = 0 := rfl
        have ee : (erOf (.inr (ndx, fx) : Res) : Int) = 0 := rfl
        rw [ea, ee]
        clear PC k7 hV HX6 HY6 K6 HU6 ea ee
        go_upto_region 11 with fail
        have ka := Keeps.one w7 (.cells #[.slice C m3 f, .slice C' n3 f'] 27)
        obtain ⟨P3, hP3⟩ : ∃ X, X = w7.heap.size := ⟨_, rfl⟩
        obtain ⟨w8, hw⟩ : ∃ w8, w8 = w7.alloc (.cells #[.slice C m3 f, .slice C' n3 f'] 27) := ⟨_, rfl⟩
        have HZ8 : Hid (Loc w8 (fun _ => False) P3 [.slice C m3 f, .slice C' n3 f']) := Lib.hid (by rw [hw, hP3]; exact Loc.new (fun h => h) [.slice C m3 f, .slice C' n3 f'] 27)
        rw [← hP3]
        rw [← hw] at ka ⊢
        have HX8 := Lib.hid (HX7.out.keeps ka)
        have HY8 := Lib.hid (HY7.out.keeps ka)
        have HU8 : Hid (TreeR 0 w8 B B' ndb fb) := Lib.hid (HU7.out.keep ka)
        have HV8 : Hid (TreeR 0 w8 C C' ndx fx) := Lib.hid (HV7.out.keep ka)
        have K8 := Lib.hid (K7.out.trans ka (fun _ _ h => h))
        clear ka hw hP3 HX7 HY7 HU7 HV7 K7 q1 q2
        have x0 := HX8.out.cells 0 _ rfl
        have x1 := HX8.out.cells 1 _ rfl
        have y0 := HY8.out.cells 0 _ rfl
        have y1 := HY8.out.cells 1 _ rfl
        have v0 := HZ8.out.cells 0 _ rfl
        have v1 := HZ8.out.cells 1 _ rfl
        go_upto_region 16 with fail
        clear x0 x1 y0 y1 v0 v1 w1' w2' c6 c300 c6d c300d n3d m3d
        go_loopg [15, 16, 17] (m2 + 1) (fun k s15 s16 s17 wr => ∃ i : Nat, s15 = .int .i64 i ∧ i + k = m2 + 1 ∧ i ≤ m2 ∧ Keeps (fun _ => False) w8 wr)
        case atStart => exact ⟨0, rfl, by omega, by omega, Keeps.refl _ _⟩
        case round =>
          obtain ⟨i, rfl, hik, him, kr⟩ := hrel
          have KR := Lib.hid kr
          have HIK := Lib.hid hik
          have HIM := Lib.hid him
          have x0 := (HX8.out.keeps kr).cells 0 _ rfl
          have x1 := (HX8.out.keeps kr).cells 1 _ rfl
          have y0 := (HY8.out.keeps kr).cells 0 _ rfl
          have y1 := (HY8.out.keeps kr).cells 1 _ rfl
          have v0 := (HZ8.out.keeps kr).cells 0 _ rfl
          have v1 := (HZ8.out.keeps kr).cells 1 _ rfl
          have HUr := Lib.hid (HU8.out.keep kr)
          have HVr := Lib.hid (HV8.out.keep kr)
          clear kr hik him
          obtain ⟨g0, hg0⟩ : ∃ g0, g0 = gk := ⟨_, rfl⟩
          subst hg0
          by_cases hin : i < m2
          · have hinI : (i : Int) < (m2 : Int) := by omega
            have hind : decide ((i : Int) < (m2 : Int)) = true := decide_eq_true hinI
            have hi0 : (0 : Int) ≤ (i : Int) := by omega
            have HIN := Lib.hid hin
            obtain ⟨j, hj⟩ : ∃ j, j = m1 + i := ⟨_, rfl⟩
            have HJ := Lib.hid hj
            have wj : IntKind.i64.wrap ((m1 : Int) + (i : Int)) = (j : Int) := by rw [show (m1 : Int) + (i : Int) = (j : Int) by omega]; exact IntWalk.i64_in _ (by obtain ⟨g1, g2, g3, g4, g5, g6, g7, g8⟩ := L3.out; omega)
            have hj0 : (0 : Int) ≤ (j : Int) := by omega
            have hj3 : (j : Int) < (m3 : Int) := by obtain ⟨g1, _⟩ := L3.out; omega
            have wi : IntKind.i64.wrap ((i : Int) + 1) = (i : Int) + 1 := IntWalk.i64_in _ (by obtain ⟨g1, g2, g3, g4, g5, g6, g7, g8⟩ := L3.out; omega)
            have hib : i < ndb.length := by obtain ⟨_, _, g3, _⟩ := L1.out; omega
            have hjx : nda.length + i < ndx.length := by obtain ⟨g1, _⟩ := L1.out; obtain ⟨g2, _⟩ := HM3.out; obtain ⟨g3, _⟩ := L3.out; obtain ⟨_, _, g4, _⟩ := L1.out; omega
            obtain ⟨bx, ox, hC, hcx⟩ := HVr.out.nodeAt (show 0 < ndx.length by omega)
            obtain ⟨bu, ou, hB, hcu⟩ := HUr.out.nodeAt (show 0 < ndb.length by omega)
            obtain ⟨ax, cx, p0, p1, p2, p3, p4, rx⟩ := hcx (nda.length + i) hjx
            obtain ⟨au, cu, u0, u1, u2, u3, u4, ru⟩ := hcu i hib
            obtain ⟨t1, t2, t3, t4⟩ := HT.out.nds i hib hjx
            obtain ⟨kl, kv⟩ := HT.out.kids i hib
            have hja : nda.length + i = j := by obtain ⟨g1, _⟩ := L1.out; omega
            rw [t4, List.length_map] at p4
            rw [t4] at rx
            rw [t1, hja] at p0
            rw [t2, hja] at p2
            rw [t3, hja] at p3
            generalize (ndx[nda.length + i]).ln = ly at p1
            rw [hja] at p1 p4
            have hC : C = some ⟨bx, ox, none⟩ := hC
            have hB : B = some ⟨bu, ou, none⟩ := hB
            subst hC
            subst hB
            obtain ⟨ul, hul⟩ : ∃ l, l = (ndb[i]).l := ⟨_, rfl⟩
            rw [← hul] at p4 rx u4 ru kl kv
            obtain ⟨ll, hll⟩ : ∃ n, n = ul.length := ⟨_, rfl⟩
            rw [← hll] at p4 u4
            have RX := Lib.hid rx
            have RU := Lib.hid ru
            have KV := Lib.hid kv
            have HLL := Lib.hid hll
            have hl3 : ll ≤ 300 := by rw [hll]; exact kl
            generalize (ndb[i]).ln = lu at u1
            generalize (ndb[i]).k = kk at p0 u0
            generalize (ndb[i]).n = nv at p2 u2
            generalize ofL (ndb[i]).s = sv at p3 u3
            clear rx ru kv hul hll kl t1 t2 t3 t4 hcx hcu hja hj hin hib hjx
            go_upto_region 19 with fail
            have ka := Keeps.one wr (.cells #[.int .i64 kk, .int .i64 ly, .int .i64 nv, .string sv, .slice ax ll cx] 33)
            obtain ⟨Y, hY⟩ : ∃ X, X = wr.heap.size := ⟨_, rfl⟩
            obtain ⟨wy, hw⟩ : ∃ w, w = wr.alloc (.cells #[.int .i64 kk, .int .i64 ly, .int .i64 nv, .string sv, .slice ax ll cx] 33) := ⟨_, rfl⟩
            have HYy : Hid (Loc wy (fun _ => False) Y [.int .i64 kk, .int .i64 ly, .int .i64 nv, .string sv, .slice ax ll cx]) := Lib.hid (by rw [hw, hY]; exact Loc.new (fun h => h) [.int .i64 kk, .int .i64 ly, .int .i64 nv, .string sv, .slice ax ll cx] 33)
            rw [← hY]
            rw [← hw] at ka ⊢
            have KY := Lib.hid (KR.out.trans ka (fun _ _ h => h))
            have RX2 := Lib.hid (RX.out.keep ka (fun _ _ _ _ h => h))
            have RU2 := Lib.hid (RU.out.keep ka (fun _ _ _ _ h => h))
            have g : ∀ {b o : Nat} {v : Value}, wr.cell? ⟨b, o, none⟩ = some v → wy.cell? ⟨b, o, none⟩ = some v := fun hc => (ka.cell (cell_ltk hc) (fun h => h)).trans hc
            have x0 := g x0
            have x1 := g x1
            have y0 := g y0
            have y1 := g y1
            have u0 := g u0
            have u2 := g u2
            have u3 := g u3
            have u4 := g u4
            have X10 := Lib.hid (And.intro x0 (And.intro x1 (And.intro y0 (And.intro y1 u4))))
            have z0 := HYy.out.cells 0 _ rfl
            have z2 := HYy.out.cells 2 _ rfl
            have z3 := HYy.out.cells 3 _ rfl
            have z4 := HYy.out.cells 4 _ rfl
            have b0 : (kk != kk) = false := by simp
            have b1 : (nv != nv) = false := by simp
            have b2 : (sv.toList != sv.toList) = false := by simp
            have b3 : ((ll : Int) != (ll : Int)) = false := by simp
            clear ka hw hY g p0 p1 p2 p3 p4 u1 v0 v1 RX RU
            go_quiet (fail)
            have kd := drew_keeps wy nq
            generalize wy.drewN nq = wz at *
            have KZ := Lib.hid (KY.out.trans kd (fun _ _ h => h))
            have RX3 := Lib.hid (RX2.out.keep kd (fun _ _ _ _ h => h))
            have RU3 := Lib.hid (RU2.out.keep kd (fun _ _ _ _ h => h))
            have HYz := Lib.hid (HYy.out.keeps kd)
            have X11 : Hid (wz.cell? ⟨P1, 0, none⟩ = some (.slice A m1 c) ∧ wz.cell? ⟨P2, 0, none⟩ = some (.slice (some ⟨bu, ou, none⟩) m2 d) ∧ wz.cell? ⟨bu, ou + i * 5 + 4, none⟩ = some (.slice au ll cu)) := Lib.hid (by
              obtain ⟨g0, g1, g2, g3, g4⟩ := X10.out
              exact ⟨(kd.cell (cell_ltk g0) (fun h => h)).trans g0, (kd.cell (cell_ltk g2) (fun h => h)).trans g2, (kd.cell (cell_ltk g4) (fun h => h)).trans g4⟩)
            clear kd x0 x1 y0 y1 u0 u2 u3 u4 z0 z2 z3 z4 b0 b1 b2 b3 X10 KY RX2 RU2 HYy KR
            go_upto_region 22 with fail
            go_loopg [17] (ll + 1) (fun k s17 wq => ∃ q : Nat, s17 = .int .i64 q ∧ q + k = ll + 1 ∧ q ≤ ll ∧ Keeps (fun _ => False) wz wq)
            case atStart => exact ⟨0, rfl, by omega, by omega, Keeps.refl _ _⟩
            case round =>
              obtain ⟨q, rfl, hqk, hqm, kq⟩ := hrel
              have z4 := (HYz.out.keeps kq).cells 4 _ rfl
              obtain ⟨g0, g1, g2⟩ := X11.out
              have x0 := (kq.cell (cell_ltk g0) (fun h => h)).trans g0
              have y0 := (kq.cell (cell_ltk g1) (fun h => h)).trans g1
              have u4 := (kq.cell (cell_ltk g2) (fun h => h)).trans g2
              have KQ := Lib.hid kq
              have HQK := Lib.hid hqk
              have RX4 := Lib.hid (RX3.out.keep kq (fun _ _ _ _ h => h))
              have RU4 := Lib.hid (RU3.out.keep kq (fun _ _ _ _ h => h))
              clear kq hqk g0 g1 g2
              by_cases hql : q < ll
              · have hqI : (q : Int) < (ll : Int) := by omega
                have hqd : decide ((q : Int) < (ll : Int)) = true := decide_eq_true hqI
                have hq0 : (0 : Int) ≤ (q : Int) := by omega
                have wq1 : IntKind.i64.wrap ((q : Int) + 1) = (q : Int) + 1 := IntWalk.i64_in _ (by omega)
                have HQL := Lib.hid hql
                have hqu : q < ul.length := by have := HLL.out; omega
                obtain ⟨b1, o1, ha1, hc1⟩ := RX4.out.at (k := q) (by rw [List.length_map]; exact hqu)
                obtain ⟨b2, o2, ha2, hc2⟩ := RU4.out.at hqu
                subst ha1
                subst ha2
                have hv0 := KV.out (ul.getD q 0) (by rw [List.getD, List.getElem?_eq_getElem hqu]; exact List.getElem_mem hqu)
                have hmv : (ul.map (fun x => x + (nda.length : Int))).getD q 0 = ul.getD q 0 + (m1 : Int) := by
                  rw [List.getD, List.getElem?_map, List.getD, List.getElem?_eq_getElem hqu, L1.out.1]
                  rfl
                rw [hmv] at hc1
                generalize ul.getD q 0 = vv at hc1 hc2 hv0
                have wv := IntWalk.i64_in (vv + (m1 : Int)) (by obtain ⟨g1, g2, g3, g4, g5, g6, g7, g8⟩ := L3.out; omega)
                have bv : (vv + (m1 : Int) != vv + (m1 : Int)) = false := by simp
                clear hv0 hmv hqu hql hqm
                go_upto_region 24 with fail
                go_quiet (fail)
                have kd := drew_keeps wr nq
                generalize wr.drewN nq = wv2 at *
                clear x0 y0 u4 z4 hc1 hc2 wv bv
                go_wp2_with fail
                go_roundg (gk - 1)
                case measure => go_light; have h1 := HQK.out; have h2 := HQL.out; omega
                case rel => exact ⟨q + 1, by go_num, by have h1 := HQK.out; have h2 := HQL.out; go_light; omega, by have h2 := HQL.out; go_light; omega, KQ.out.trans kd (fun _ _ h => h)⟩
              · have hqI : ¬ (q : Int) < (ll : Int) := by omega
                have hqd : decide ((q : Int) < (ll : Int)) = false := decide_eq_false hqI
                clear hql
                go_wp2_with fail
                go_roundg (g0 - 1)
                case measure => go_light; have h1 := HIK.out; have h2 := HIN.out; omega
                case rel => exact ⟨i + 1, by go_num, by have h1 := HIK.out; have h2 := HIN.out; go_light; omega, by have h2 := HIN.out; go_light; omega, KZ.out.trans KQ.out (fun _ _ h => h)⟩
          · have hinI : ¬ (i : Int) < (m2 : Int) := by omega
            have hind : decide ((i : Int) < (m2 : Int)) = false := decide_eq_false hinI
            clear hin
            go_upto_region 27 with fail
            clear x0 x1 y0 y1 v0 v1 hinI hind
            go_loopg [18] (n2 + 1) (fun k s18 wq => ∃ q : Nat, s18 = .int .i64 q ∧ q + k = n2 + 1 ∧ q ≤ n2 ∧ Keeps (fun _ => False) w8 wq)
            case atStart => exact ⟨0, rfl, by omega, by omega, KR.out⟩
            case round =>
              obtain ⟨q, rfl, hqk, hqm, kq⟩ := hrel
              have x0 := (HX8.out.keeps kq).cells 0 _ rfl
              have x1 := (HX8.out.keeps kq).cells 1 _ rfl
              have y0 := (HY8.out.keeps kq).cells 0 _ rfl
              have y1 := (HY8.out.keeps kq).cells 1 _ rfl
              have v0 := (HZ8.out.keeps kq).cells 0 _ rfl
              have v1 := (HZ8.out.keeps kq).cells 1 _ rfl
              have HUq := Lib.hid (HU8.out.keep kq)
              have HVq := Lib.hid (HV8.out.keep kq)
              have KQ := Lib.hid kq
              have HQK := Lib.hid hqk
              clear kq hqk
              by_cases hql : q < n2
              · have hqI : (q : Int) < (n2 : Int) := by omega
                have hqd : decide ((q : Int) < (n2 : Int)) = true := decide_eq_true hqI
                have hq0 : (0 : Int) ≤ (q : Int) := by omega
                have HQL := Lib.hid hql
                obtain ⟨j, hj⟩ : ∃ j, j = n1 + q := ⟨_, rfl⟩
                have wj : IntKind.i64.wrap ((n1 : Int) + (q : Int)) = (j : Int) := by rw [show (n1 : Int) + (q : Int) = (j : Int) by omega]; exact IntWalk.i64_in _ (by obtain ⟨g1, g2, g3, g4, g5, g6, g7, g8⟩ := L3.out; omega)
                have hj0 : (0 : Int) ≤ (j : Int) := by omega
                have hj3 : (j : Int) < (n3 : Int) := by obtain ⟨_, g1, _⟩ := L3.out; omega
                have wi : IntKind.i64.wrap ((q : Int) + 1) = (q : Int) + 1 := IntWalk.i64_in _ (by obtain ⟨g1, g2, g3, g4, g5, g6, g7, g8⟩ := L3.out; omega)
                have hib : q < fb.length := by obtain ⟨_, _, _, g3⟩ := L1.out; omega
                have hjx : fa.length + q < fx.length := by obtain ⟨_, g1, _, g4⟩ := L1.out; obtain ⟨_, g2⟩ := HM3.out; obtain ⟨_, g3, _⟩ := L3.out; omega
                obtain ⟨bx, ox, hC, hcx⟩ := HVq.out.fnAt (show 0 < fx.length by omega)
                obtain ⟨bu, ou, hB, hcu⟩ := HUq.out.fnAt (show 0 < fb.length by omega)
                obtain ⟨ax, cx, p0, p1, p2, p3, p4, -⟩ := hcx (fa.length + q) hjx
                obtain ⟨au, cu, u0, u1, u2, u3, u4, -⟩ := hcu q hib
                obtain ⟨t1, t2⟩ := HT.out.fns q hib hjx
                obtain ⟨kb, kv⟩ := HT.out.bods q hib
                have hja : fa.length + q = j := by obtain ⟨_, g1, _⟩ := L1.out; omega
                rw [t1, hja] at p0
                rw [t2, hja, ← L1.out.1] at p4
                have hC : C' = some ⟨bx, ox, none⟩ := hC
                have hB : B' = some ⟨bu, ou, none⟩ := hB
                subst hC
                subst hB
                generalize (fb[q]).body = vv at p4 u4 kb kv
                generalize ofL (fb[q]).s = sv at p0 u0
                have wv := IntWalk.i64_in (vv + (m1 : Int)) (by obtain ⟨g1, g2, g3, g4, g5, g6, g7, g8⟩ := L3.out; omega)
                have bv : (vv + (m1 : Int) != vv + (m1 : Int)) = false := by simp
                have b2 : (sv.toList != sv.toList) = false := by simp
                clear kb kv t1 t2 hja hcx hcu p1 p2 p3 u1 u2 u3 hib hjx hj hql hqm
                go_upto_region 29 with fail
                go_quiet (fail)
                have kd := drew_keeps wr nq
                generalize wr.drewN nq = wv2 at *
                clear x0 x1 y0 y1 v0 v1 p0 p4 u0 u4 wv bv b2
                go_wp2_with fail
                go_roundg (gk - 1)
                case measure => go_light; have h1 := HQK.out; have h2 := HQL.out; omega
                case rel => exact ⟨q + 1, by go_num, by have h1 := HQK.out; have h2 := HQL.out; go_light; omega, by have h2 := HQL.out; go_light; omega, KQ.out.trans kd (fun _ _ h => h)⟩
              · have hqI : ¬ (q : Int) < (n2 : Int) := by omega
                have hqd : decide ((q : Int) < (n2 : Int)) = false := decide_eq_false hqI
                clear hql
                go_wp2_with fail
                go_ret
                exact ⟨rfl, K8.out.trans KQ.out (fun _ _ h => h)⟩
    · have hb : ((e2 : Int) != 0) = true := by simp; omega
      subst hea
      clear heb
      go_wp2_with fail
      go_ret
      exact ⟨rfl, K6.out⟩
  · have hb : ((e1 : Int) != 0) = true := by simp; omega
    clear hea
    go_wp2_with fail
    go_ret
    exact ⟨rfl, K6.out⟩

end Go.Proofs.YtgelggdgbmldiaaDoor

namespace Go.Proofs.YtgelggdgbmldiaaDoor
open Go Go.RowKit Go.Shelf
set_option linter.unusedVariables false
set_option linter.unusedSimpArgs false


set_option maxRecDepth 100000 in
set_option maxHeartbeats 32000000 in
theorem both_walkSB (s0 s1 : ByteArray) (h0 : ¬ 280 < s0.size) (h1 : 280 < s1.size) (w : World) (he : ErrW w) : Calls Tryd.prog 5 #[.string s0, .string s1] w fun e w' => e = .returned (.bool true) ∧ Keeps (fun _ => False) w w' := by
  have HC := Lib.hid (shown_any w he)
  have HE := Lib.hid he
  clear he
  go_enter Tryd.func5, Tryd.ntmps5
  go_wp2_with fail
  refine HC.out.mono ?_
  rintro e w1 ⟨rfl, k1⟩
  have K1 := Lib.hid k1
  clear HC k1
  have hIa : ¬ (280 : Int) < (s0.size : Int) := by omega
  have hDa : decide ((280 : Int) < (s0.size : Int)) = false := decide_eq_false hIa
  have HSA := Lib.hid (show s0.size ≤ 280 by omega)
  clear h0
  go_upto_region 4 with fail
  clear hIa hDa
  generalize s0 = a at *
  have hIb : (280 : Int) < (s1.size : Int) := by omega
  have hJb : (280 : Int) ≤ (s1.size : Int) := by omega
  have hDb : decide ((280 : Int) < (s1.size : Int)) = true := decide_eq_true hIb
  obtain ⟨b, hvb⟩ : ∃ m, m = s1.extract 0 280 := ⟨_, rfl⟩
  have HSB := Lib.hid (show b.size ≤ 280 by rw [hvb, ByteArray.size_extract]; omega)
  clear h1
  go_upto_region 6 with fail
  rw [← hvb]
  clear hIb hJb hDb hvb
  obtain ⟨ra, hra⟩ := allP_some a.data.toList 6100 (Nat.le_refl _)
  obtain ⟨rb, hrb⟩ := allP_some b.data.toList 6100 (Nat.le_refl _)
  have HRA := Lib.hid hra
  have HRB := Lib.hid hrb
  have AC := Lib.hid (src_all a (by have := HSA.out; omega) ra hra w1 (HE.out.keep K1.out))
  have BC : Hid (∀ w3, Keeps (fun _ => False) w w3 → Calls Tryd.prog 13 #[.string b] w3 fun e w' => ∃ A c A' c', e = .returned (.tuple #[.agg #[.slice A (ndsOf rb).length c, .slice A' (fnsOf rb).length c'], .int .i64 (atOf rb : Int), .int .i64 (erOf rb : Int)]) ∧ TreeR 0 w' A A' (ndsOf rb) (fnsOf rb) ∧ Keeps (fun _ => False) w3 w') := Lib.hid fun w3 k3 => src_all b (by have := HSB.out; omega) rb hrb w3 (HE.out.keep k3)
  obtain ⟨m1, hm1⟩ : ∃ m, m = (ndsOf ra).length := ⟨_, rfl⟩
  obtain ⟨n1, hn1⟩ : ∃ m, m = (fnsOf ra).length := ⟨_, rfl⟩
  obtain ⟨m2, hm2⟩ : ∃ m, m = (ndsOf rb).length := ⟨_, rfl⟩
  obtain ⟨n2, hn2⟩ : ∃ m, m = (fnsOf rb).length := ⟨_, rfl⟩
  obtain ⟨e1, he1⟩ : ∃ m, m = erOf ra := ⟨_, rfl⟩
  obtain ⟨e2, he2⟩ : ∃ m, m = erOf rb := ⟨_, rfl⟩
  have HM1 := Lib.hid hm1
  have HN1 := Lib.hid hn1
  have HM2 := Lib.hid hm2
  have HN2 := Lib.hid hn2
  have HE1 := Lib.hid he1
  have HE2 := Lib.hid he2
  rw [← hm1, ← hn1, ← he1] at AC
  rw [← hm2, ← hn2, ← he2] at BC
  generalize (atOf ra : Int) = a1 at AC
  generalize (atOf rb : Int) = a2 at BC
  clear hm1 hn1 hm2 hn2 he1 he2 hra hrb
  go_wp2_with fail
  refine AC.out.mono ?_
  rintro e w3 ⟨A, c, A', c', rfl, -, k3⟩
  have K3 := Lib.hid (K1.out.trans k3 (fun _ _ h => h))
  clear AC K1 k3
  go_upto_region 7 with fail
  have ka := Keeps.one w3 (.cells #[.slice A m1 c, .slice A' n1 c'] 27)
  obtain ⟨P1, hP1⟩ : ∃ X, X = w3.heap.size := ⟨_, rfl⟩
  obtain ⟨w4, hw⟩ : ∃ w4, w4 = w3.alloc (.cells #[.slice A m1 c, .slice A' n1 c'] 27) := ⟨_, rfl⟩
  have HX1 : Hid (Loc w4 (fun _ => False) P1 [.slice A m1 c, .slice A' n1 c']) := Lib.hid (by rw [hw, hP1]; exact Loc.new (fun h => h) [.slice A m1 c, .slice A' n1 c'] 27)
  rw [← hP1]
  rw [← hw] at ka ⊢
  have K4 := Lib.hid (K3.out.trans ka (fun _ _ h => h))
  have BD := Lib.hid (BC.out w4 K4.out)
  clear ka hw hP1 BC K3
  go_wp2_with fail
  refine BD.out.mono ?_
  rintro e w5 ⟨B, d, B', d', rfl, hU, k5⟩
  have HX5 := Lib.hid (HX1.out.keeps k5)
  have HU5 := Lib.hid hU
  have K5 := Lib.hid (K4.out.trans k5 (fun _ _ h => h))
  clear BD k5 hU HX1 K4
  go_upto_region 8 with fail
  have ka := Keeps.one w5 (.cells #[.slice B m2 d, .slice B' n2 d'] 27)
  obtain ⟨P2, hP2⟩ : ∃ X, X = w5.heap.size := ⟨_, rfl⟩
  obtain ⟨w6, hw⟩ : ∃ w6, w6 = w5.alloc (.cells #[.slice B m2 d, .slice B' n2 d'] 27) := ⟨_, rfl⟩
  have HY6 : Hid (Loc w6 (fun _ => False) P2 [.slice B m2 d, .slice B' n2 d']) := Lib.hid (by rw [hw, hP2]; exact Loc.new (fun h => h) [.slice B m2 d, .slice B' n2 d'] 27)
  rw [← hP2]
  rw [← hw] at ka ⊢
  have HX6 := Lib.hid (HX5.out.keeps ka)
  have HU6 := Lib.hid (HU5.out.keep ka)
  have K6 := Lib.hid (K5.out.trans ka (fun _ _ h => h))
  clear ka hw hP2 HX5 HU5 K5
  by_cases hea : e1 = 0
  · by_cases heb : e2 = 0
    · subst hea
      subst heb
      obtain ⟨nda, fa, rfl⟩ := er_tree HRA.out HE1.out.symm
      obtain ⟨ndb, fb, rfl⟩ := er_tree HRB.out HE2.out.symm
      obtain ⟨Z, hZ⟩ : ∃ Z, Z = (a ++ { data := #[10] } : ByteArray) ++ b := ⟨_, rfl⟩
      have hZs : Z.size ≤ 600 := by rw [hZ, ByteArray.size_append, ByteArray.size_append]; have h1 := HSA.out; have h2 := HSB.out; show a.size + 1 + b.size ≤ 600; omega
      have hZl : Z.data.toList = a.data.toList ++ 10 :: b.data.toList := by rw [hZ]; simp [ByteArray.data_append]
      have HZ := Lib.hid hZ
      have HBT := Lib.hid (both_tree a.data.toList b.data.toList nda ndb fa fb HRA.out HRB.out (by rw [← hZl, len_size]; exact hZs))
      have q1 : ¬ 9223372036854775807 < a.size + 1 := by have h1 := HSA.out; omega
      have q2 : ¬ 9223372036854775807 < a.size + 1 + b.size := by have h1 := HSA.out; have h2 := HSB.out; omega
      rw [← hZl] at HBT
      have HZS := Lib.hid hZs
      clear hZ hZl hZs
      have L1 : Hid (m1 = nda.length ∧ n1 = fa.length ∧ m2 = ndb.length ∧ n2 = fb.length) := Lib.hid ⟨HM1.out, HN1.out, HM2.out, HN2.out⟩
      have z0 : ((0 : Nat) : Int) = 0 := rfl
      rcases HBT.out with ⟨hbig, hb2, l1, l2, l3, l4⟩ | ⟨hnb, ndx, fx, hfit, hT⟩
      · -- too big
        have PC := Lib.hid (src_all Z (by have := HZS.out; omega) _ hbig w6 (HE.out.keep K6.out))
        have HB2 : Hid ((6 : Int) < (n1 : Int) + (n2 : Int) ∨ (300 : Int) < (m1 : Int) + (m2 : Int)) := Lib.hid (by obtain ⟨g1, g2, g3, g4⟩ := L1.out; rcases hb2 with h | h <;> omega)
        have w1' := IntWalk.i64_in ((n1 : Int) + (n2 : Int)) (by obtain ⟨g1, g2, g3, g4⟩ := L1.out; omega)
        have w2' := IntWalk.i64_in ((m1 : Int) + (m2 : Int)) (by obtain ⟨g1, g2, g3, g4⟩ := L1.out; omega)
        clear hbig hb2 l1 l2 l3 l4 HBT
        go_upto_region 10 with fail
        go_wp2_with fail
        rw [← HZ.out]
        refine PC.out.mono ?_
        rintro e w7 ⟨C, f, C', f', rfl, -, k7⟩
        have HX7 := Lib.hid (HX6.out.keeps k7)
        have HY7 := Lib.hid (HY6.out.keeps k7)
        have K7 := Lib.hid (K6.out.trans k7 (fun _ _ h => h))
        have ea : (atOf (.inl (0, 4) : Res) : Int) = 0 := rfl
        have ee : (erOf (.inl (0, 4) : Res) : Int) = 4 := rfl
        have en : (ndsOf (.inl (0, 4) : Res)).length = 0 := rfl
        have ef : (fnsOf (.inl (0, 4) : Res)).length = 0 := rfl
        rw [ea, ee, en, ef]
        clear PC k7 HX6 HY6 K6 HU6
        go_upto_region 11 with fail
        have ka := Keeps.one w7 (.cells #[.slice C 0 f, .slice C' 0 f'] 27)
        obtain ⟨w8, hw⟩ : ∃ w8, w8 = w7.alloc (.cells #[.slice C 0 f, .slice C' 0 f'] 27) := ⟨_, rfl⟩
        rw [← hw] at ka ⊢
        have HX8 := Lib.hid (HX7.out.keeps ka)
        have HY8 := Lib.hid (HY7.out.keeps ka)
        have K8 := Lib.hid (K7.out.trans ka (fun _ _ h => h))
        generalize w7.heap.size = P3
        clear ka hw HX7 HY7 K7 q1 q2
        have x0 := HX8.out.cells 0 _ rfl
        have x1 := HX8.out.cells 1 _ rfl
        have y0 := HY8.out.cells 0 _ rfl
        have y1 := HY8.out.cells 1 _ rfl
        by_cases hc : (6 : Int) < (n1 : Int) + (n2 : Int)
        · have hcd : decide ((6 : Int) < (n1 : Int) + (n2 : Int)) = true := decide_eq_true hc
          clear HB2
          go_wp2_with fail
          go_ret
          exact ⟨rfl, K8.out⟩
        · have hcd : decide ((6 : Int) < (n1 : Int) + (n2 : Int)) = false := decide_eq_false hc
          have hc2 : (300 : Int) < (m1 : Int) + (m2 : Int) := HB2.out.elim (fun h => absurd h hc) (fun h => h)
          have hcd2 : decide ((300 : Int) < (m1 : Int) + (m2 : Int)) = true := decide_eq_true hc2
          clear HB2
          go_wp2_with fail
          go_ret
          exact ⟨rfl, K8.out⟩
      · have PC := Lib.hid (src_all Z (by have := HZS.out; omega) _ hfit w6 (HE.out.keep K6.out))
        have HT := Lib.hid hT
        obtain ⟨m3, hm3⟩ : ∃ m, m = (ndsOf (.inr (ndx, fx) : Res)).length := ⟨_, rfl⟩
        obtain ⟨n3, hn3⟩ : ∃ m, m = (fnsOf (.inr (ndx, fx) : Res)).length := ⟨_, rfl⟩
        rw [← hm3, ← hn3] at PC
        have L3 : Hid (m3 = m1 + m2 ∧ n3 = n1 + n2 ∧ m1 ≤ 300 ∧ m2 ≤ 300 ∧ n1 ≤ 6 ∧ n2 ≤ 6 ∧ m1 + m2 ≤ 300 ∧ n1 + n2 ≤ 6) := Lib.hid (by
          obtain ⟨g1, g2, g3, g4⟩ := L1.out
          have h1 := hT.nn
          have h2 := hT.nf
          have h3 : m3 = ndx.length := hm3
          have h4 : n3 = fx.length := hn3
          obtain ⟨g5, g6, g7, g8⟩ := hT.many
          omega)
        have HM3 : Hid (m3 = ndx.length ∧ n3 = fx.length) := Lib.hid ⟨hm3, hn3⟩
        have w1' := IntWalk.i64_in ((n1 : Int) + (n2 : Int)) (by obtain ⟨g1, g2, g3, g4, g5, g6, g7, g8⟩ := L3.out; omega)
        have w2' := IntWalk.i64_in ((m1 : Int) + (m2 : Int)) (by obtain ⟨g1, g2, g3, g4, g5, g6, g7, g8⟩ := L3.out; omega)
        have c6 : ¬ (6 : Int) < (n1 : Int) + (n2 : Int) := by obtain ⟨g1, g2, g3, g4, g5, g6, g7, g8⟩ := L3.out; omega
        have c300 : ¬ (300 : Int) < (m1 : Int) + (m2 : Int) := by obtain ⟨g1, g2, g3, g4, g5, g6, g7, g8⟩ := L3.out; omega
        have c6d : decide ((6 : Int) < (n1 : Int) + (n2 : Int)) = false := decide_eq_false c6
        have c300d : decide ((300 : Int) < (m1 : Int) + (m2 : Int)) = false := decide_eq_false c300
        have n3d : ((n3 : Int) != (n1 : Int) + (n2 : Int)) = false := by obtain ⟨g1, g2, _⟩ := L3.out; simp; omega
        have m3d : ((m3 : Int) != (m1 : Int) + (m2 : Int)) = false := by obtain ⟨g1, g2, _⟩ := L3.out; simp; omega
        clear hnb hfit hT HBT hm3 hn3
        go_upto_region 10 with fail
        go_wp2_with fail
        rw [← HZ.out]
        refine PC.out.mono ?_
        rintro e w7 ⟨C, f, C', f', rfl, hV, k7⟩
        have HX7 := Lib.hid (HX6.out.keeps k7)
        have HY7 := Lib.hid (HY6.out.keeps k7)
        have HU7 := Lib.hid (HU6.out.keep k7)
        have HV7 := Lib.hid hV
        have K7 := Lib.hid (K6.out.trans k7 (fun _ _ h => h))
        have ea : (atOf (.inr (ndx, fx) : Res) : Int) = 0 := rfl
        have ee : (erOf (.inr (ndx, fx) : Res) : Int) = 0 := rfl
        rw [ea, ee]
        clear PC k7 hV HX6 HY6 K6 HU6 ea ee
        go_upto_region 11 with fail
        have ka := Keeps.one w7 (.cells #[.slice C m3 f, .slice C' n3 f'] 27)
        obtain ⟨P3, hP3⟩ : ∃ X, X = w7.heap.size := ⟨_, rfl⟩
        obtain ⟨w8, hw⟩ : ∃ w8, w8 = w7.alloc (.cells #[.slice C m3 f, .slice C' n3 f'] 27) := ⟨_, rfl⟩
        have HZ8 : Hid (Loc w8 (fun _ => False) P3 [.slice C m3 f, .slice C' n3 f']) := Lib.hid (by rw [hw, hP3]; exact Loc.new (fun h => h) [.slice C m3 f, .slice C' n3 f'] 27)
        rw [← hP3]
        rw [← hw] at ka ⊢
        have HX8 := Lib.hid (HX7.out.keeps ka)
        have HY8 := Lib.hid (HY7.out.keeps ka)
        have HU8 : Hid (TreeR 0 w8 B B' ndb fb) := Lib.hid (HU7.out.keep ka)
        have HV8 : Hid (TreeR 0 w8 C C' ndx fx) := Lib.hid (HV7.out.keep ka)
        have K8 := Lib.hid (K7.out.trans ka (fun _ _ h => h))
        clear ka hw hP3 HX7 HY7 HU7 HV7 K7 q1 q2
        have x0 := HX8.out.cells 0 _ rfl
        have x1 := HX8.out.cells 1 _ rfl
        have y0 := HY8.out.cells 0 _ rfl
        have y1 := HY8.out.cells 1 _ rfl
        have v0 := HZ8.out.cells 0 _ rfl
        have v1 := HZ8.out.cells 1 _ rfl
        go_upto_region 16 with fail
        clear x0 x1 y0 y1 v0 v1 w1' w2' c6 c300 c6d c300d n3d m3d
        go_loopg [15, 16, 17] (m2 + 1) (fun k s15 s16 s17 wr => ∃ i : Nat, s15 = .int .i64 i ∧ i + k = m2 + 1 ∧ i ≤ m2 ∧ Keeps (fun _ => False) w8 wr)
        case atStart => exact ⟨0, rfl, by omega, by omega, Keeps.refl _ _⟩
        case round =>
          obtain ⟨i, rfl, hik, him, kr⟩ := hrel
          have KR := Lib.hid kr
          have HIK := Lib.hid hik
          have HIM := Lib.hid him
          have x0 := (HX8.out.keeps kr).cells 0 _ rfl
          have x1 := (HX8.out.keeps kr).cells 1 _ rfl
          have y0 := (HY8.out.keeps kr).cells 0 _ rfl
          have y1 := (HY8.out.keeps kr).cells 1 _ rfl
          have v0 := (HZ8.out.keeps kr).cells 0 _ rfl
          have v1 := (HZ8.out.keeps kr).cells 1 _ rfl
          have HUr := Lib.hid (HU8.out.keep kr)
          have HVr := Lib.hid (HV8.out.keep kr)
          clear kr hik him
          obtain ⟨g0, hg0⟩ : ∃ g0, g0 = gk := ⟨_, rfl⟩
          subst hg0
          by_cases hin : i < m2
          · have hinI : (i : Int) < (m2 : Int) := by omega
            have hind : decide ((i : Int) < (m2 : Int)) = true := decide_eq_true hinI
            have hi0 : (0 : Int) ≤ (i : Int) := by omega
            have HIN := Lib.hid hin
            obtain ⟨j, hj⟩ : ∃ j, j = m1 + i := ⟨_, rfl⟩
            have HJ := Lib.hid hj
            have wj : IntKind.i64.wrap ((m1 : Int) + (i : Int)) = (j : Int) := by rw [show (m1 : Int) + (i : Int) = (j : Int) by omega]; exact IntWalk.i64_in _ (by obtain ⟨g1, g2, g3, g4, g5, g6, g7, g8⟩ := L3.out; omega)
            have hj0 : (0 : Int) ≤ (j : Int) := by omega
            have hj3 : (j : Int) < (m3 : Int) := by obtain ⟨g1, _⟩ := L3.out; omega
            have wi : IntKind.i64.wrap ((i : Int) + 1) = (i : Int) + 1 := IntWalk.i64_in _ (by obtain ⟨g1, g2, g3, g4, g5, g6, g7, g8⟩ := L3.out; omega)
            have hib : i < ndb.length := by obtain ⟨_, _, g3, _⟩ := L1.out; omega
            have hjx : nda.length + i < ndx.length := by obtain ⟨g1, _⟩ := L1.out; obtain ⟨g2, _⟩ := HM3.out; obtain ⟨g3, _⟩ := L3.out; obtain ⟨_, _, g4, _⟩ := L1.out; omega
            obtain ⟨bx, ox, hC, hcx⟩ := HVr.out.nodeAt (show 0 < ndx.length by omega)
            obtain ⟨bu, ou, hB, hcu⟩ := HUr.out.nodeAt (show 0 < ndb.length by omega)
            obtain ⟨ax, cx, p0, p1, p2, p3, p4, rx⟩ := hcx (nda.length + i) hjx
            obtain ⟨au, cu, u0, u1, u2, u3, u4, ru⟩ := hcu i hib
            obtain ⟨t1, t2, t3, t4⟩ := HT.out.nds i hib hjx
            obtain ⟨kl, kv⟩ := HT.out.kids i hib
            have hja : nda.length + i = j := by obtain ⟨g1, _⟩ := L1.out; omega
            rw [t4, List.length_map] at p4
            rw [t4] at rx
            rw [t1, hja] at p0
            rw [t2, hja] at p2
            rw [t3, hja] at p3
            generalize (ndx[nda.length + i]).ln = ly at p1
            rw [hja] at p1 p4
            have hC : C = some ⟨bx, ox, none⟩ := hC
            have hB : B = some ⟨bu, ou, none⟩ := hB
            subst hC
            subst hB
            obtain ⟨ul, hul⟩ : ∃ l, l = (ndb[i]).l := ⟨_, rfl⟩
            rw [← hul] at p4 rx u4 ru kl kv
            obtain ⟨ll, hll⟩ : ∃ n, n = ul.length := ⟨_, rfl⟩
            rw [← hll] at p4 u4
            have RX := Lib.hid rx
            have RU := Lib.hid ru
            have KV := Lib.hid kv
            have HLL := Lib.hid hll
            have hl3 : ll ≤ 300 := by rw [hll]; exact kl
            generalize (ndb[i]).ln = lu at u1
            generalize (ndb[i]).k = kk at p0 u0
            generalize (ndb[i]).n = nv at p2 u2
            generalize ofL (ndb[i]).s = sv at p3 u3
            clear rx ru kv hul hll kl t1 t2 t3 t4 hcx hcu hja hj hin hib hjx
            go_upto_region 19 with fail
            have ka := Keeps.one wr (.cells #[.int .i64 kk, .int .i64 ly, .int .i64 nv, .string sv, .slice ax ll cx] 33)
            obtain ⟨Y, hY⟩ : ∃ X, X = wr.heap.size := ⟨_, rfl⟩
            obtain ⟨wy, hw⟩ : ∃ w, w = wr.alloc (.cells #[.int .i64 kk, .int .i64 ly, .int .i64 nv, .string sv, .slice ax ll cx] 33) := ⟨_, rfl⟩
            have HYy : Hid (Loc wy (fun _ => False) Y [.int .i64 kk, .int .i64 ly, .int .i64 nv, .string sv, .slice ax ll cx]) := Lib.hid (by rw [hw, hY]; exact Loc.new (fun h => h) [.int .i64 kk, .int .i64 ly, .int .i64 nv, .string sv, .slice ax ll cx] 33)
            rw [← hY]
            rw [← hw] at ka ⊢
            have KY := Lib.hid (KR.out.trans ka (fun _ _ h => h))
            have RX2 := Lib.hid (RX.out.keep ka (fun _ _ _ _ h => h))
            have RU2 := Lib.hid (RU.out.keep ka (fun _ _ _ _ h => h))
            have g : ∀ {b o : Nat} {v : Value}, wr.cell? ⟨b, o, none⟩ = some v → wy.cell? ⟨b, o, none⟩ = some v := fun hc => (ka.cell (cell_ltk hc) (fun h => h)).trans hc
            have x0 := g x0
            have x1 := g x1
            have y0 := g y0
            have y1 := g y1
            have u0 := g u0
            have u2 := g u2
            have u3 := g u3
            have u4 := g u4
            have X10 := Lib.hid (And.intro x0 (And.intro x1 (And.intro y0 (And.intro y1 u4))))
            have z0 := HYy.out.cells 0 _ rfl
            have z2 := HYy.out.cells 2 _ rfl
            have z3 := HYy.out.cells 3 _ rfl
            have z4 := HYy.out.cells 4 _ rfl
            have b0 : (kk != kk) = false := by simp
            have b1 : (nv != nv) = false := by simp
            have b2 : (sv.toList != sv.toList) = false := by simp
            have b3 : ((ll : Int) != (ll : Int)) = false := by simp
            clear ka hw hY g p0 p1 p2 p3 p4 u1 v0 v1 RX RU
            go_quiet (fail)
            have kd := drew_keeps wy nq
            generalize wy.drewN nq = wz at *
            have KZ := Lib.hid (KY.out.trans kd (fun _ _ h => h))
            have RX3 := Lib.hid (RX2.out.keep kd (fun _ _ _ _ h => h))
            have RU3 := Lib.hid (RU2.out.keep kd (fun _ _ _ _ h => h))
            have HYz := Lib.hid (HYy.out.keeps kd)
            have X11 : Hid (wz.cell? ⟨P1, 0, none⟩ = some (.slice A m1 c) ∧ wz.cell? ⟨P2, 0, none⟩ = some (.slice (some ⟨bu, ou, none⟩) m2 d) ∧ wz.cell? ⟨bu, ou + i * 5 + 4, none⟩ = some (.slice au ll cu)) := Lib.hid (by
              obtain ⟨g0, g1, g2, g3, g4⟩ := X10.out
              exact ⟨(kd.cell (cell_ltk g0) (fun h => h)).trans g0, (kd.cell (cell_ltk g2) (fun h => h)).trans g2, (kd.cell (cell_ltk g4) (fun h => h)).trans g4⟩)
            clear kd x0 x1 y0 y1 u0 u2 u3 u4 z0 z2 z3 z4 b0 b1 b2 b3 X10 KY RX2 RU2 HYy KR
            go_upto_region 22 with fail
            go_loopg [17] (ll + 1) (fun k s17 wq => ∃ q : Nat, s17 = .int .i64 q ∧ q + k = ll + 1 ∧ q ≤ ll ∧ Keeps (fun _ => False) wz wq)
            case atStart => exact ⟨0, rfl, by omega, by omega, Keeps.refl _ _⟩
            case round =>
              obtain ⟨q, rfl, hqk, hqm, kq⟩ := hrel
              have z4 := (HYz.out.keeps kq).cells 4 _ rfl
              obtain ⟨g0, g1, g2⟩ := X11.out
              have x0 := (kq.cell (cell_ltk g0) (fun h => h)).trans g0
              have y0 := (kq.cell (cell_ltk g1) (fun h => h)).trans g1
              have u4 := (kq.cell (cell_ltk g2) (fun h => h)).trans g2
              have KQ := Lib.hid kq
              have HQK := Lib.hid hqk
              have RX4 := Lib.hid (RX3.out.keep kq (fun _ _ _ _ h => h))
              have RU4 := Lib.hid (RU3.out.keep kq (fun _ _ _ _ h => h))
              clear kq hqk g0 g1 g2
              by_cases hql : q < ll
              · have hqI : (q : Int) < (ll : Int) := by omega
                have hqd : decide ((q : Int) < (ll : Int)) = true := decide_eq_true hqI
                have hq0 : (0 : Int) ≤ (q : Int) := by omega
                have wq1 : IntKind.i64.wrap ((q : Int) + 1) = (q : Int) + 1 := IntWalk.i64_in _ (by omega)
                have HQL := Lib.hid hql
                have hqu : q < ul.length := by have := HLL.out; omega
                obtain ⟨b1, o1, ha1, hc1⟩ := RX4.out.at (k := q) (by rw [List.length_map]; exact hqu)
                obtain ⟨b2, o2, ha2, hc2⟩ := RU4.out.at hqu
                subst ha1
                subst ha2
                have hv0 := KV.out (ul.getD q 0) (by rw [List.getD, List.getElem?_eq_getElem hqu]; exact List.getElem_mem hqu)
                have hmv : (ul.map (fun x => x + (nda.length : Int))).getD q 0 = ul.getD q 0 + (m1 : Int) := by
                  rw [List.getD, List.getElem?_map, List.getD, List.getElem?_eq_getElem hqu, L1.out.1]
                  rfl
                rw [hmv] at hc1
                generalize ul.getD q 0 = vv at hc1 hc2 hv0
                have wv := IntWalk.i64_in (vv + (m1 : Int)) (by obtain ⟨g1, g2, g3, g4, g5, g6, g7, g8⟩ := L3.out; omega)
                have bv : (vv + (m1 : Int) != vv + (m1 : Int)) = false := by simp
                clear hv0 hmv hqu hql hqm
                go_upto_region 24 with fail
                go_quiet (fail)
                have kd := drew_keeps wr nq
                generalize wr.drewN nq = wv2 at *
                clear x0 y0 u4 z4 hc1 hc2 wv bv
                go_wp2_with fail
                go_roundg (gk - 1)
                case measure => go_light; have h1 := HQK.out; have h2 := HQL.out; omega
                case rel => exact ⟨q + 1, by go_num, by have h1 := HQK.out; have h2 := HQL.out; go_light; omega, by have h2 := HQL.out; go_light; omega, KQ.out.trans kd (fun _ _ h => h)⟩
              · have hqI : ¬ (q : Int) < (ll : Int) := by omega
                have hqd : decide ((q : Int) < (ll : Int)) = false := decide_eq_false hqI
                clear hql
                go_wp2_with fail
                go_roundg (g0 - 1)
                case measure => go_light; have h1 := HIK.out; have h2 := HIN.out; omega
                case rel => exact ⟨i + 1, by go_num, by have h1 := HIK.out; have h2 := HIN.out; go_light; omega, by have h2 := HIN.out; go_light; omega, KZ.out.trans KQ.out (fun _ _ h => h)⟩
          · have hinI : ¬ (i : Int) < (m2 : Int) := by omega
            have hind : decide ((i : Int) < (m2 : Int)) = false := decide_eq_false hinI
            clear hin
            go_upto_region 27 with fail
            clear x0 x1 y0 y1 v0 v1 hinI hind
            go_loopg [18] (n2 + 1) (fun k s18 wq => ∃ q : Nat, s18 = .int .i64 q ∧ q + k = n2 + 1 ∧ q ≤ n2 ∧ Keeps (fun _ => False) w8 wq)
            case atStart => exact ⟨0, rfl, by omega, by omega, KR.out⟩
            case round =>
              obtain ⟨q, rfl, hqk, hqm, kq⟩ := hrel
              have x0 := (HX8.out.keeps kq).cells 0 _ rfl
              have x1 := (HX8.out.keeps kq).cells 1 _ rfl
              have y0 := (HY8.out.keeps kq).cells 0 _ rfl
              have y1 := (HY8.out.keeps kq).cells 1 _ rfl
              have v0 := (HZ8.out.keeps kq).cells 0 _ rfl
              have v1 := (HZ8.out.keeps kq).cells 1 _ rfl
              have HUq := Lib.hid (HU8.out.keep kq)
              have HVq := Lib.hid (HV8.out.keep kq)
              have KQ := Lib.hid kq
              have HQK := Lib.hid hqk
              clear kq hqk
              by_cases hql : q < n2
              · have hqI : (q : Int) < (n2 : Int) := by omega
                have hqd : decide ((q : Int) < (n2 : Int)) = true := decide_eq_true hqI
                have hq0 : (0 : Int) ≤ (q : Int) := by omega
                have HQL := Lib.hid hql
                obtain ⟨j, hj⟩ : ∃ j, j = n1 + q := ⟨_, rfl⟩
                have wj : IntKind.i64.wrap ((n1 : Int) + (q : Int)) = (j : Int) := by rw [show (n1 : Int) + (q : Int) = (j : Int) by omega]; exact IntWalk.i64_in _ (by obtain ⟨g1, g2, g3, g4, g5, g6, g7, g8⟩ := L3.out; omega)
                have hj0 : (0 : Int) ≤ (j : Int) := by omega
                have hj3 : (j : Int) < (n3 : Int) := by obtain ⟨_, g1, _⟩ := L3.out; omega
                have wi : IntKind.i64.wrap ((q : Int) + 1) = (q : Int) + 1 := IntWalk.i64_in _ (by obtain ⟨g1, g2, g3, g4, g5, g6, g7, g8⟩ := L3.out; omega)
                have hib : q < fb.length := by obtain ⟨_, _, _, g3⟩ := L1.out; omega
                have hjx : fa.length + q < fx.length := by obtain ⟨_, g1, _, g4⟩ := L1.out; obtain ⟨_, g2⟩ := HM3.out; obtain ⟨_, g3, _⟩ := L3.out; omega
                obtain ⟨bx, ox, hC, hcx⟩ := HVq.out.fnAt (show 0 < fx.length by omega)
                obtain ⟨bu, ou, hB, hcu⟩ := HUq.out.fnAt (show 0 < fb.length by omega)
                obtain ⟨ax, cx, p0, p1, p2, p3, p4, -⟩ := hcx (fa.length + q) hjx
                obtain ⟨au, cu, u0, u1, u2, u3, u4, -⟩ := hcu q hib
                obtain ⟨t1, t2⟩ := HT.out.fns q hib hjx
                obtain ⟨kb, kv⟩ := HT.out.bods q hib
                have hja : fa.length + q = j := by obtain ⟨_, g1, _⟩ := L1.out; omega
                rw [t1, hja] at p0
                rw [t2, hja, ← L1.out.1] at p4
                have hC : C' = some ⟨bx, ox, none⟩ := hC
                have hB : B' = some ⟨bu, ou, none⟩ := hB
                subst hC
                subst hB
                generalize (fb[q]).body = vv at p4 u4 kb kv
                generalize ofL (fb[q]).s = sv at p0 u0
                have wv := IntWalk.i64_in (vv + (m1 : Int)) (by obtain ⟨g1, g2, g3, g4, g5, g6, g7, g8⟩ := L3.out; omega)
                have bv : (vv + (m1 : Int) != vv + (m1 : Int)) = false := by simp
                have b2 : (sv.toList != sv.toList) = false := by simp
                clear kb kv t1 t2 hja hcx hcu p1 p2 p3 u1 u2 u3 hib hjx hj hql hqm
                go_upto_region 29 with fail
                go_quiet (fail)
                have kd := drew_keeps wr nq
                generalize wr.drewN nq = wv2 at *
                clear x0 x1 y0 y1 v0 v1 p0 p4 u0 u4 wv bv b2
                go_wp2_with fail
                go_roundg (gk - 1)
                case measure => go_light; have h1 := HQK.out; have h2 := HQL.out; omega
                case rel => exact ⟨q + 1, by go_num, by have h1 := HQK.out; have h2 := HQL.out; go_light; omega, by have h2 := HQL.out; go_light; omega, KQ.out.trans kd (fun _ _ h => h)⟩
              · have hqI : ¬ (q : Int) < (n2 : Int) := by omega
                have hqd : decide ((q : Int) < (n2 : Int)) = false := decide_eq_false hqI
                clear hql
                go_wp2_with fail
                go_ret
                exact ⟨rfl, K8.out.trans KQ.out (fun _ _ h => h)⟩
    · have hb : ((e2 : Int) != 0) = true := by simp; omega
      subst hea
      clear heb
      go_wp2_with fail
      go_ret
      exact ⟨rfl, K6.out⟩
  · have hb : ((e1 : Int) != 0) = true := by simp; omega
    clear hea
    go_wp2_with fail
    go_ret
    exact ⟨rfl, K6.out⟩

end Go.Proofs.YtgelggdgbmldiaaDoor
