/-
 Layer 4: CheckSizes. Written by an AI agent.
 Layer 4: the start of a row. Written by an AI agent.
-/
import Derived.Test.YtbhpnioggpgbhaaGreatDoorRows
import Derived.Stop.LaidErr
import Derived.LaidMore
import Derived.Stop.Joined
import Derived.ProofKit
import Derived.ChangeOld
import Derived.Test.YtbhpnioggpgbhaaGreatDoorMcbn
namespace Go.Proofs.YtbhpnioggpgbhaaGreatDoor
open Go Go.RowKit Go.Shelf
set_option linter.unusedVariables false
set_option linter.unusedSimpArgs false
/-- What Source comes to. -/
theorem src4_any (t : ByteArray) (ht : t.size ≤ 1000) (w : World) (he : ErrW w) :
  (∃ ln z : Int, (z == 0) = false ∧ Calls Tryz.prog 11 #[.string t] w fun e w' => e = .returned (.tuple #[.agg #[.slice none 0 0, .slice none 0 0, .slice none 0 0, .slice none 0 0, .slice none 0 0, .slice none 0 0], .int .i64 ln, .int .i64 z]) ∧ Keeps (fun _ => False) w w') ∨
  (∃ nd fs ps x, allP 6100 t.data.toList = some (.inr (nd, fs)) ∧ WT nd fs ps ∧ FitS nd fs ∧ ckAll fs ps = .ok x ∧ Calls Tryz.prog 11 #[.string t] w fun e w' => (∃ v, e = .returned (.tuple #[v, .int .i64 0, .int .i64 0]) ∧ PrgR w' v nd fs x.2 x.1) ∧ Keeps (fun _ => False) w w') := by
 obtain ⟨res, hres⟩ := allP_some t.data.toList 6100 (Nat.le_refl _)
 rcases res with pe | ⟨nd, fs⟩
 ·have hne := errs_ne 6100 t.data.toList pe.1 pe.2 hres
  exact .inl ⟨(pe.1 : Int), (pe.2 : Int), by simp; omega, psrc_any t ht 6100 (by omega) _ hres [] (fun a b h => by cases h) w he⟩
 ·obtain ⟨ps, hwt⟩ := tree_wt hres
  have RC : Calls Tryz.prog 11 #[.string t] w fun e w' => SrcOut nd fs (ckAll fs ps) e w' ∧ Keeps (fun _ => False) w w' := psrc_any t ht 6100 (by omega) _ hres ps (fun a b h => by cases h; exact hwt) w he
  cases hck : ckAll fs ps with
  | error z =>
   rw [hck] at RC
   have hz : z.2 ≠ 0 := by
    rcases ck_err hwt hck with h | h
    ·rw [h]; decide
    ·omega
   exact .inl ⟨_, (z.2 : Int), by simp; omega, RC⟩
  | ok x =>
   rw [hck] at RC
   exact .inr ⟨nd, fs, ps, x, hres, hwt, fits_of hres, hck, RC⟩
/-- There is a function. -/
theorem fns_pos {fs : List Fnc} {ps : List (Fnc × Bl)} {x : List Nat × List Tri} (h : ckAll fs ps = .ok x) : 0 < fs.length := by
 cases fs with
 | nil => cases h
 | cons a l => exact Nat.succ_pos _
theorem own_rowN {w : World} {base : Nat} {v : Value} {n : Nat} {l : List Int} (h : w.ownsRow base 3 1 v n (valI l)) (hn : 0 < n) : ∃ g c, v = .slice (some ⟨g, 0, none⟩) n c ∧ base ≤ g ∧ g < w.heap.size ∧ RowN w g l := by
 have h0 := h
 rcases h.2 with ⟨_, e⟩ | ⟨g, cap, cur, e1, hb, hg, hcap, hmax, hsz, htk⟩
 ·omega
 ·subst e1
  have hlt : g < w.heap.size := by
   rcases Nat.lt_or_ge g w.heap.size with h | h
   ·exact h
   ·rw [Array.getElem?_eq_none h] at hg
    cases hg
  refine ⟨g, cap, rfl, hb, hlt, ⟨fun j v hj => ?_, fun k => by simp [World.frozen?, hg]⟩⟩
  have hl : l.length = n := by have := h.1; unfold valI at this; rw [List.length_map] at this; omega
  have hjl : j < n := by rw [← hl]; exact (List.getElem?_eq_some_iff.1 hj).1
  have h3 := h0.cellAt j (by omega)
  rw [h3]
  unfold valI
  rw [List.getElem?_map, hj]
  rfl
theorem nxV_10 {d : Nd} {t : Tri} {a : List Nd} {l : List Tri} {x r : List Int} (h : nxV (d :: a) (t :: l) x = some r) (hk : d.k = 10) : ∃ f : Nat, t.f = (f : Int) ∧ x[f]? = some t.s ∧ nxV a l (x.set f (t.s + 1)) = some r := by
 unfold nxV at h
 rw [if_pos hk] at h
 split at h
 ·rename_i hc
  refine ⟨t.f.toNat, by omega, hc.2, h⟩
 ·cases h
theorem nxV_no {d : Nd} {t : Tri} {a : List Nd} {l : List Tri} {x r : List Int} (h : nxV (d :: a) (t :: l) x = some r) (hk : ¬ d.k = 10) : nxV a l x = some r := by
 unfold nxV at h
 rw [if_neg hk] at h
 exact h
set_option maxRecDepth 100000 in
set_option maxHeartbeats 16000000 in
theorem ints4_any (a b : Option Addr) (c d n : Nat) (l : List Int) (hn : n = l.length) (hl : n ≤ 1000000) (w : World) (ha : RdI w a l) (hb : RdI w b l) : Calls Tryz.prog 21 #[.slice a n c, .slice b n d] w fun e w' => e = .returned (.bool true) ∧ Keeps (fun _ => False) w w' := by
 have HA := Lib.hid ha
 have HB := Lib.hid hb
 have HN := Lib.hid hn
 clear ha hb hn
 go_enter Tryz.func21, Tryz.ntmps21
 go_wp2_with fail
 go_loopg [5] (n + 1) (fun k s5 wr => ∃ i : Nat, s5 = .int .i64 i ∧ i + k = n + 1 ∧ i ≤ n ∧ Keeps (fun _ => False) w wr)
 case atStart => exact ⟨0, rfl, by omega, by omega, Keeps.refl _ _⟩
 case round =>
  obtain ⟨i, rfl, hik, hle, kr⟩ := hrel
  have KR := Lib.hid kr
  have HIK := Lib.hid hik
  by_cases hin : i < n
  ·have hinI : (i : Int) < (n : Int) := by omega
   have hd : decide ((i : Int) < (n : Int)) = true := decide_eq_true hinI
   have hi0 : (0 : Int) ≤ (i : Int) := by omega
   have hw := IntWalk.i64_in ((i : Int) + 1) (by omega)
   obtain ⟨b1, o1, rfl, h1⟩ := HA.out (by rw [← HN.out]; omega)
   obtain ⟨b2, o2, rfl, h2⟩ := HB.out (by rw [← HN.out]; omega)
   have c1 := (kr.cell (cell_ltk (h1 i (by rw [← HN.out]; exact hin))) (fun h => h)).trans (h1 i (by rw [← HN.out]; exact hin))
   have c2 := (kr.cell (cell_ltk (h2 i (by rw [← HN.out]; exact hin))) (fun h => h)).trans (h2 i (by rw [← HN.out]; exact hin))
   generalize l.getD i 0 = z at c1 c2
   have HIN := Lib.hid hin
   clear h1 h2 kr hik hin
   go_wp2_with fail
   go_quiet (fail)
   go_wp2_with fail
   go_roundg (gk - 1)
   case measure => go_light; have h1 := HIK.out; have h2 := HIN.out; omega
   case rel => exact ⟨i + 1, by go_num, by have h1 := HIK.out; have h2 := HIN.out; go_light; omega, by have h2 := HIN.out; go_light; omega, KR.out.trans (drew_keeps _ _) (fun _ _ h => h)⟩
  ·obtain rfl : i = n := by omega
   have hinI : ¬ (i : Int) < (i : Int) := by omega
   have hd : decide ((i : Int) < (i : Int)) = false := decide_eq_false hinI
   clear hin hik kr
   go_wp2_with fail
   go_ret
   exact ⟨rfl, KR.out⟩
set_option maxRecDepth 100000 in
set_option maxHeartbeats 16000000 in
theorem sizes_walk (s0 : ByteArray) (w : World) (he : ErrW w) : Calls Tryz.prog 7 #[.string s0] w fun e w' => e = .returned (.bool true) ∧ Keeps (fun _ => False) w w' := by
 have HW := Lib.hid he
 have HC := Lib.hid (shown4_any w he)
 obtain ⟨i0, hi0v, hz0v, hz1v, hz2v⟩ := info_parts info_int
 have HI0 := Lib.hid (And.intro hi0v (And.intro hz0v (And.intro hz1v hz2v)))
 clear he hi0v hz0v hz1v hz2v
 go_enter Tryz.func7, Tryz.ntmps7
 go_wp2_with fail
 refine HC.out.mono ?_
 rintro e w1 ⟨rfl, k1⟩
 have K1 := Lib.hid k1
 have SC := Lib.hid (short4_any s0 w1)
 clear HC k1
 go_wp2_with fail
 refine SC.out.mono ?_
 rintro e w2 ⟨⟨t, ht, rfl⟩, rfl⟩
 have R0 := Lib.hid (src4_any t (by omega) w2 (HW.out.keep K1.out))
 clear SC ht HW
 rcases R0.out with ⟨ln, z, hb, RC0⟩ | ⟨nd, fs, ps, x, hres, hwt, hfit, hck, RC0⟩
 ·have RC := Lib.hid RC0
  clear RC0 R0
  go_wp2_with fail
  refine RC.out.mono ?_
  rintro e w3 ⟨rfl, k3⟩
  have K3 := Lib.hid (K1.out.trans k3 (fun _ _ h => h))
  have ka := Keeps.one w3 (.cells #[.slice none 0 0, .slice none 0 0, .slice none 0 0, .slice none 0 0, .slice none 0 0, .slice none 0 0] 30)
  have K4 := Lib.hid (K3.out.trans ka (fun _ _ h => h))
  clear RC k3 ka
  go_wp2_with fail
  go_ret
  exact ⟨rfl, K4.out⟩
 ·have RC := Lib.hid RC0
  obtain ⟨hnx, hxl, hxL⟩ := nx_all hwt hck
  have hK0 := fns_pos hck
  have HFIT := Lib.hid hfit
  have HNX := Lib.hid hnx
  have HL := Lib.hid hxL
  clear RC0 R0 hres hwt hfit hck hnx
  go_wp2_with fail
  refine RC.out.mono ?_
  rintro e w3 ⟨⟨v, rfl, hp⟩, k3⟩
  obtain ⟨A, A', c, c', T, S, F, Z, cT, cS, cF, cZ, rfl, hB, hZ⟩ := hp.open
  obtain ⟨fb, fo, hA', hfn⟩ := hB.tree.fnAt hK0
  subst hA'
  have HFN := Lib.hid hfn
  rw [hxl, hxL]
  obtain ⟨M, hM⟩ : ∃ M, M = nd.length := ⟨_, rfl⟩
  obtain ⟨K, hK⟩ : ∃ K, K = fs.length := ⟨_, rfl⟩
  rw [← hM, ← hK]
  rw [← hK] at hK0
  have HM := Lib.hid hM
  have HK := Lib.hid hK
  have hM3 : M ≤ 300 := by rw [hM]; exact HFIT.out.nds
  have hK6 : K ≤ 6 := by rw [hK]; exact HFIT.out.fns
  obtain ⟨X, hX⟩ : ∃ X, X = w3.heap.size := ⟨_, rfl⟩
  obtain ⟨w4, hw4⟩ : ∃ w4, w4 = w3.alloc (.cells #[.slice A M c, .slice (some ⟨fb, fo, none⟩) K c', .slice T M cT, .slice S M cS, .slice F M cF, .slice Z K cZ] 30) := ⟨_, rfl⟩
  have ka := Keeps.one w3 (.cells #[.slice A M c, .slice (some ⟨fb, fo, none⟩) K c', .slice T M cT, .slice S M cS, .slice F M cF, .slice Z K cZ] 30)
  have z : Loc w4 (fun _ => False) X [.slice A M c, .slice (some ⟨fb, fo, none⟩) K c', .slice T M cT, .slice S M cS, .slice F M cF, .slice Z K cZ] := by rw [hw4, hX]; exact Loc.new (R := fun _ => False) (fun h => h) [.slice A M c, .slice (some ⟨fb, fo, none⟩) K c', .slice T M cT, .slice S M cS, .slice F M cF, .slice Z K cZ] 30
  have K3 := Lib.hid (K1.out.trans k3 (fun _ _ h => h))
  have HB3 := Lib.hid hB
  have HZ3 := Lib.hid hZ
  clear RC k3 hp hB hZ hfn hM hK hxl hxL K1
  go_upto_region 3 with fail
  rw [← hX]
  rw [← hw4] at ka ⊢
  have HX1 := Lib.hid z
  have HB4 := Lib.hid (HB3.out.keep ka)
  have HZ4 := Lib.hid (HZ3.out.keep ka (fun _ _ _ _ h => h))
  have K4 := Lib.hid (K3.out.trans ka (fun _ _ h => h))
  have HKA := Lib.hid ka
  clear ka z hw4 hX HB3 HZ3 K3
  go_upto_region 6 with fail
  obtain ⟨w5, hw5⟩ : ∃ w5, w5 = w4.alloc (.cells #[] 3) := ⟨_, rfl⟩
  have k5 := Keeps.one w4 (.cells #[] 3)
  have hown : (w4.alloc (.cells #[] 3)).ownsRow w4.heap.size 3 1 (.slice (some ⟨w4.heap.size, 0, none⟩) 0 0) 0 (valI []) := World.ownsRow_made w4 #[] 0 (Nat.le_refl _) (Nat.zero_le _) rfl
  rw [← hw5] at k5 hown ⊢
  have K5 := Lib.hid k5
  have HOWN := Lib.hid hown
  obtain ⟨pl, hpl⟩ : ∃ pl, pl = fs.map (fun f => (f.ps.length : Int)) := ⟨_, rfl⟩
  rw [← hpl] at HNX
  have hpK : pl.length = K := by rw [hpl, List.length_map, HK.out]
  have HPL := Lib.hid hpl
  have HPK := Lib.hid hpK
  obtain ⟨B, hB⟩ : ∃ B, B = w4.heap.size := ⟨_, rfl⟩
  rw [← hB] at HOWN ⊢
  have HBQ := Lib.hid hB
  clear k5 hown hw5 hpl hpK hB
  go_wp2_with fail
  go_loopg [7, 8] (K + 1) (fun gq s7 s8 wr => ∃ (i : Nat) (A7 : Option Addr) (c7 : Nat), s7 = .slice A7 i c7 ∧ s8 = .int .i64 i ∧ i + gq = K + 1 ∧ i ≤ K ∧ wr.ownsRow B 3 1 (.slice A7 i c7) i (valI (pl.take i)) ∧ Keeps (fun _ => False) w4 wr)
  case atStart => exact ⟨0, _, _, rfl, rfl, by omega, by omega, HOWN.out, K5.out⟩
  case round =>
   obtain ⟨i, A7, c7, rfl, rfl, hiq, hin1, ho, kr⟩ := hrel
   have KR := Lib.hid kr
   have HIQ := Lib.hid hiq
   have HO := Lib.hid ho
   have x1 := (HX1.out.keeps kr).cells 1 _ rfl
   clear hiq ho kr
   by_cases hin : i < K
   ·have hI : (i : Int) < (K : Int) := by omega
    have hdI : decide ((i : Int) < (K : Int)) = true := decide_eq_true hI
    have hi0 : (0 : Int) ≤ (i : Int) := by omega
    have wi : IntKind.i64.wrap ((i : Int) + 1) = (i : Int) + 1 := IntWalk.i64_in _ (by omega)
    have HIN := Lib.hid hin
    have hil : i < fs.length := by rw [← HK.out]; exact hin
    obtain ⟨pa, pc, q2⟩ : ∃ a c, w3.cell? ⟨fb, fo + i * 5 + 2, none⟩ = some (.slice a (fs[i]).ps.length c) := by
     obtain ⟨a, c, _, _, h, _⟩ := HFN.out i hil
     exact ⟨a, c, h⟩
    obtain ⟨q, hq⟩ : ∃ q, q = (fs[i]).ps.length := ⟨_, rfl⟩
    rw [← hq] at q2
    have q2r := ((HKA.out.trans KR.out (fun _ _ h => h)).cell (cell_ltk q2) (fun h => h)).trans q2
    have HNXT : Hid (valI (pl.take (i + 1)) = valI (pl.take i) ++ [.int .i64 (q : Int)]) := Lib.hid (by
     have h1 : i < pl.length := by rw [HPK.out]; exact hin
     have h2 : pl[i] = (q : Int) := by simp only [HPL.out, List.getElem_map, hq]
     unfold valI
     rw [List.take_succ_eq_append_getElem h1, List.map_append, h2]
     rfl)
    have HSZ : Hid (B ≤ wr.heap.size) := Lib.hid (by rw [HBQ.out]; exact KR.out.size)
    have hn9 : i + 1 ≤ 1000000 := by omega
    obtain ⟨hi0v, hz0v, hz1v, hz2v⟩ := HI0.out
    clear hil hin hin1 q2 hq
    go_wp2_with (at_builtin; refine wpList_append_atk rfl (.tmp 31) (.tmp 40) 28 rfl B 3 i0 _ 1 8 Tryz.underlying28 hi0v hz0v hz1v hz2v (by rfl) (by omega) (.slice A7 i c7) i (valI (pl.take i)) (by rfl) (ownsRow_keep HO.out (fun g hg => (Keeps.one wr _).block g (own_ltk HO.out hg) (fun h => h))) ⟨wr.heap.size, 0, none⟩ 1 1 [.int .i64 (q : Int)] (by rfl) (by rfl) (newsG [.int .i64 (q : Int)] _) (fun u hu => by rw [List.mem_singleton.1 hu]; rfl) (by omega) (by omega) (Nat.le_trans HSZ.out (Keeps.one wr _).size) ?_; intro v5 w6 h5 g5 b5; obtain ⟨A6, c6, rfl⟩ := own_formk h5; have HO5 : Hid (w6.ownsRow B 3 1 (.slice A6 (i + 1) c6) (i + 1) (valI (pl.take (i + 1)))) := Lib.hid (by rw [HNXT.out]; exact h5); have K6 : Hid (Keeps (fun _ => False) w4 w6) := Lib.hid ((KR.out.trans (Keeps.one wr _) (fun _ _ h => h)).grown g5 (fun kk hk hlt => by have h1 := (HO.out.lt kk hk).1; have h2 := HBQ.out; omega)); clear h5 g5 b5 HO KR hi0v hz0v hz1v hz2v)
    go_roundg (gk - 1)
    case measure => go_light; have h1 := HIQ.out; have h2 := HIN.out; omega
    case rel => exact ⟨i + 1, A6, c6, rfl, by go_num, by have h1 := HIQ.out; have h2 := HIN.out; go_light; omega, by have h2 := HIN.out; go_light; omega, HO5.out, K6.out⟩
   ·obtain rfl : K = i := by omega
    have hI : ¬ (K : Int) < (K : Int) := by omega
    have hdI : decide ((K : Int) < (K : Int)) = false := decide_eq_false hI
    have y0 := (HX1.out.keeps KR.out).cells 0 _ rfl
    have y3 := (HX1.out.keeps KR.out).cells 3 _ rfl
    have y5 := (HX1.out.keeps KR.out).cells 5 _ rfl
    have hoK := HO.out
    rw [show pl.take K = pl by rw [← HPK.out]; exact List.take_length] at hoK
    obtain ⟨g, c8, e8, hBg, hgl, hrow⟩ := own_rowN hoK hK0
    injection e8 with e8 _ e9
    subst e8
    subst e9
    have HROW := Lib.hid hrow
    have HBG := Lib.hid hBg
    have HGL := Lib.hid hgl
    clear hin hin1 hoK hrow hBg hgl HO
    go_upto_region 12 with fail
    go_wp2_with fail
    clear y0 y3 y5 x1
    obtain ⟨wo, hwo⟩ : ∃ wo, wo = wr := ⟨_, rfl⟩
    subst hwo
    obtain ⟨g0, hg0⟩ : ∃ g0, g0 = gk := ⟨_, rfl⟩
    subst hg0
    go_loopg [9, 10] (M + 1) (fun gq s9 s10 wr => ∃ (i : Nat) (ns : List Int), s9 = .int .i64 i ∧ i + gq = M + 1 ∧ i ≤ M ∧ RowN wr g ns ∧ ns.length = K ∧ nxV (nd.drop i) (x.2.drop i) ns = some (x.1.map fun n : Nat => (n : Int)) ∧ (∀ v ∈ ns, 0 ≤ v ∧ v ≤ 1000 + (i : Int)) ∧ g < wr.heap.size ∧ Keeps (fun _ => False) w4 wr)
    case atStart => exact ⟨0, pl, rfl, by omega, by omega, HROW.out, HPK.out, HNX.out, fun v hv => (by
     rw [HPL.out] at hv
     obtain ⟨f, hf, rfl⟩ := List.mem_map.1 hv
     have h3 := HFIT.out.prs f hf
     omega), HGL.out, KR.out⟩
    case round =>
     obtain ⟨i, ns, rfl, hiq, hin1, hrw, hnl, hnx, hbd, hgl, kr⟩ := hrel
     have HIQ := Lib.hid hiq
     have HRW := Lib.hid hrw
     have HNL := Lib.hid hnl
     have HBD := Lib.hid hbd
     have HGL2 := Lib.hid hgl
     have KR2 := Lib.hid kr
     have z0 := (HX1.out.keeps kr).cells 0 _ rfl
     have z3 := (HX1.out.keeps kr).cells 3 _ rfl
     have z4 := (HX1.out.keeps kr).cells 4 _ rfl
     have z5 := (HX1.out.keeps kr).cells 5 _ rfl
     clear hiq hrw hnl hbd hgl kr
     by_cases hin : i < M
     ·have hI : (i : Int) < (M : Int) := by omega
      have hdI : decide ((i : Int) < (M : Int)) = true := decide_eq_true hI
      have hi0 : (0 : Int) ≤ (i : Int) := by omega
      have wi : IntKind.i64.wrap ((i : Int) + 1) = (i : Int) + 1 := IntWalk.i64_in _ (by omega)
      have HIN := Lib.hid hin
      have hid : i < nd.length := by rw [← HM.out]; exact hin
      have hil : i < x.2.length := by rw [HL.out]; exact hid
      rw [List.drop_eq_getElem_cons hid, List.drop_eq_getElem_cons hil] at hnx
      obtain ⟨nb, no, hA, hc⟩ := HB4.out.tree.nodeAt (by omega)
      have n0 : w4.cell? ⟨nb, no + i * 5, none⟩ = some (.int .i64 (nd[i]).k) := by
       obtain ⟨_, _, h, _⟩ := hc i hid
       exact h
      subst hA
      obtain ⟨fb2, fq, hF, f0⟩ := HB4.out.rF.get (k := i) (by rw [List.length_map]; exact hil) (x := (x.2[i]).f) (by rw [List.getElem?_map, List.getElem?_eq_getElem hil]; rfl)
      obtain ⟨sb, sq, hS, s0c⟩ := HB4.out.rS.get (k := i) (by rw [List.length_map]; exact hil) (x := (x.2[i]).s) (by rw [List.getElem?_map, List.getElem?_eq_getElem hil]; rfl)
      subst hF
      subst hS
      replace n0 := (KR2.out.cell (cell_ltk n0) (fun h => h)).trans n0
      replace f0 := (KR2.out.cell (cell_ltk f0) (fun h => h)).trans f0
      replace s0c := (KR2.out.cell (cell_ltk s0c) (fun h => h)).trans s0c
      obtain ⟨kk, hkk⟩ : ∃ kk, kk = (nd[i]).k := ⟨_, rfl⟩
      rw [← hkk] at n0
      clear hc
      by_cases hk : kk = 10
      ·subst hk
       obtain ⟨f, hf, hxf, hnx2⟩ := nxV_10 hnx hkk.symm
       rw [hf] at f0
       obtain ⟨sv, hsv⟩ : ∃ sv, sv = (x.2[i]).s := ⟨_, rfl⟩
       rw [← hsv] at hxf hnx2 s0c
       obtain ⟨hfl, hfe⟩ := List.getElem?_eq_some_iff.1 hxf
       have hfK : f < K := by rw [← HNL.out]; exact hfl
       have hfI : (f : Int) < (K : Int) := by omega
       have hf0 : (0 : Int) ≤ (f : Int) := by omega
       have hfn : ¬ (f : Int) < 0 := by omega
       have hfg : ¬ (f : Int) ≥ (K : Int) := by omega
       have hdn : decide ((f : Int) < 0) = false := decide_eq_false hfn
       have hdg : decide ((f : Int) ≥ (K : Int)) = false := decide_eq_false hfg
       have hsb := HBD.out sv (by rw [← hfe]; exact List.getElem_mem hfl)
       have wsv : IntKind.i64.wrap (sv + 1) = sv + 1 := IntWalk.i64_in _ (by omega)
       have r0 := HRW.out.cell f sv hxf
       have r1 := HRW.out.fz f
       have HNX2 := Lib.hid hnx2
       have HR2 : Hid (∀ nq, RowN ((wr.drewN nq).setCell ⟨g, f, none⟩ (.int .i64 (sv + 1))) g (ns.set f (sv + 1)) ∧ Keeps (fun _ => False) w4 ((wr.drewN nq).setCell ⟨g, f, none⟩ (.int .i64 (sv + 1))) ∧ g < ((wr.drewN nq).setCell ⟨g, f, none⟩ (.int .i64 (sv + 1))).heap.size ∧ (∀ v ∈ ns.set f (sv + 1), 0 ≤ v ∧ v ≤ 1000 + ((i : Int) + 1))) := Lib.hid (fun nq => by
        have kd := drew_keeps wr nq
        have k1 := one_block (wr.drewN nq) g f (.int .i64 (sv + 1))
        refine ⟨(HRW.out.keepR HGL2.out kd (fun h => h)).set f (sv + 1) hfl, kback (((KR2.out.trans kd (fun _ _ h => h)).mono (T := fun b => B ≤ b) (fun _ _ h => h.elim)).trans k1 (fun b _ e => by have h1 := HBG.out; have e : b = g := e; show B ≤ b; omega)) HBQ.out, Nat.lt_of_lt_of_le HGL2.out (Nat.le_trans kd.size k1.size), fun v hv => ?_⟩
        rcases List.mem_or_eq_of_mem_set hv with h | h
        ·have := HBD.out v h; omega
        ·omega)
       clear hxf hnx2 hfe hfl hkk hsv hf hnx hid hil hin hin1 hsb hfK
       go_upto_region 17 with fail
       go_quiet (fail)
       go_wp2_with fail
       go_roundg (gk - 1)
       case measure => go_light; have h1 := HIQ.out; have h2 := HIN.out; omega
       case rel => exact ⟨i + 1, ns.set f (sv + 1), by go_num, by have h1 := HIQ.out; have h2 := HIN.out; go_light; omega, by have h2 := HIN.out; go_light; omega, (HR2.out _).1, by rw [List.length_set]; exact HNL.out, HNX2.out, fun v hv => (by have h := (HR2.out 0).2.2.2 v hv; omega), (HR2.out _).2.2.1, (HR2.out _).2.1⟩
      ·have hkb : (kk == 10) = false := by simpa using hk
       have HNX2 := Lib.hid (nxV_no hnx (by rw [← hkk]; exact hk))
       clear hkk hnx f0 s0c hid hil hin hin1
       go_wp2_with fail
       go_roundg (gk - 1)
       case measure => go_light; have h1 := HIQ.out; have h2 := HIN.out; omega
       case rel => exact ⟨i + 1, ns, by go_num, by have h1 := HIQ.out; have h2 := HIN.out; go_light; omega, by have h2 := HIN.out; go_light; omega, HRW.out, HNL.out, HNX2.out, fun v hv => (by have h := HBD.out v hv; omega), HGL2.out, KR2.out⟩
     ·obtain rfl : M = i := by omega
      have hI : ¬ (M : Int) < (M : Int) := by omega
      have hdI : decide ((M : Int) < (M : Int)) = false := decide_eq_false hI
      have hns : ns = x.1.map fun n : Nat => (n : Int) := by
       rw [List.drop_of_length_le (by rw [← HM.out]; exact Nat.le_refl _), List.drop_of_length_le (by rw [HL.out, ← HM.out]; exact Nat.le_refl _)] at hnx
       exact Option.some.inj hnx
      have IC := Lib.hid (ints4_any (some ⟨g, 0, none⟩) Z c7 cZ K ns HNL.out.symm (by omega) wr HRW.out.rd (by rw [hns]; exact HZ4.out.keep KR2.out (fun _ _ _ _ h => h)))
      clear hns hnx hin hin1
      go_wp2_with fail
      refine IC.out.mono ?_
      rintro e w9 ⟨rfl, k9⟩
      have K9 := Lib.hid ((K4.out.trans KR2.out (fun _ _ h => h)).trans k9 (fun _ _ h => h))
      clear IC k9 z0 z3 z4 z5
      go_wp2_with fail
      go_ret
      exact ⟨rfl, K9.out⟩
end Go.Proofs.YtbhpnioggpgbhaaGreatDoor

namespace Go.Proofs.YtbhpnioggpgbhaaGreatDoor
open Go Go.ChangeShapes Go.RowKit
set_option linter.unusedVariables false
theorem gErr : Tryz.prog.globalNamed "strconv.ErrRange" = some 2 := by kernel_rfl
theorem gErrType : (Tryz.prog.globals[2]?).map (·.type) = some 117 := by kernel_rfl
theorem cellsErr : Tryz.prog.cellsOf 149 = 1 := by kernel_rfl
theorem cells9s : Tryz.prog.cellsOf 9 = 1 := by kernel_rfl
theorem starErr : "*" ++ "errors.errorString" = "*errors.errorString" := by decide
theorem rowErr (u : TypeId) (h : Tryz.prog.typeName? 3 u = some "*errors.errorString") : u = 147 :=
 typeName_ptr_named (nm := "errors.errorString") (by rw [starErr]; kernel_rfl) (by kernel_rfl) (by decide) u (by rw [starErr]; exact h)
theorem errW_of_laid {W : World} (h : laidMetH Tryz.prog Rows.checkSizesRow.laid W) : ErrW W := by
 rw [MakeChecks.laidMetH_plain _ _ _ (by kernel_rfl)] at h
 have h2 := laidMet.tail (laidMet.tail (laidMet.tail h))
 obtain ⟨a, s, hv, _, _, _⟩ := laid_sentinel h2 gErr gErrType Tryz.underlying117 rowErr Tryz.underlying147 Tryz.underlying149 rfl rfl Tryz.underlying9 cellsErr cells9s
 refine ⟨2, 147, _, gErr, ?_, hv⟩
 have h0 := World.var?_cell gErr hv 0
 exact World.block_lt_of_cell? W ⟨2, 0, none⟩ (by simpa using h0)
theorem below_of {f : Nat} {args : Array Value} {W : World} (h : Calls Tryz.prog f args W fun e w' => e = .returned (.bool true) ∧ Keeps (fun _ => False) W w') : Calls Tryz.prog f args W fun e w' => e = .returned (.bool true) ∧ Below W.heap.size W w' :=
 h.mono fun e w' h => ⟨h.1, h.2.toBelow (Nat.le_refl _) (fun _ h => h.elim)⟩
end Go.Proofs.YtbhpnioggpgbhaaGreatDoor
