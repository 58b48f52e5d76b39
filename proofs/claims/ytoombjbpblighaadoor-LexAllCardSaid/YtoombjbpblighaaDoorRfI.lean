/-
  Layer 1: the contract of the document's All. Written by an AI agent.
-/
import Derived.Test.YtoombjbpblighaaDoorRfF
import Derived.Test.YtoombjbpblighaaDoorRfG
import Derived.Test.YtoombjbpblighaaDoorRfH
namespace Go.Proofs.YtoombjbpblighaaDoor
open Go.RowKit Go.Shelf
set_option linter.unusedVariables false
set_option linter.unusedSimpArgs false

theorem one_any (s : ByteArray) (hs : s.size ≤ 1000) (i : Nat) (hi : i < s.size) (w : World) : Calls Tryd.prog 46 #[.string s, .int .i64 i] w (OneR s.data.toList i w) := by
  cases h1 : dig s[i] with
  | true => exact one_number s hs i hi h1 w
  | false =>
    cases h2 : ltr s[i] with
    | true => exact one_name s hs i hi h1 h2 w
    | false =>
      by_cases h3 : s[i] = 34
      · exact one_text s hs i hi h1 h2 (Lib.hid h3) w
      · exact one_sign s hs i hi h1 h2 h3 w

/-- The tokens so far. -/
structure OutR (w : World) (B : Nat) (v : Value) (L : List Tok) : Prop where
  own : w.ownsRow 0 33 3 v L.length (flatT L)
  hb : ∀ g, v.ownBlock = some g → B ≤ g
theorem OutR.keep {w w' : World} {B : Nat} {v : Value} {L : List Tok} (h : OutR w B v L) (hk : Keeps (fun _ => False) w w') : OutR w' B v L := ⟨own_of h.own hk, h.hb⟩
theorem OutR.more {w w1 w5 : World} {B : Nat} {v v5 : Value} {L : List Tok} (h : OutR w B v L) (hB : B ≤ w.heap.size) (t : Tok) (hk : Keeps (fun _ => False) w w1) (ho : w5.ownsRow 0 33 3 v5 (L.length + 1) (flatT L ++ t.cells)) (hg : w1.grownBy w5 v.ownBlock)
    (hb : v5.ownBlock = v.ownBlock ∨ v5.ownBlock = some w1.heap.size) : OutR w5 B v5 (L ++ [t]) ∧ Keeps (fun b => B ≤ b) w w5 := by
  have k5 : Keeps (fun b => some b = v.ownBlock) w w5 := (hk.mono (T := fun b => some b = v.ownBlock) (fun _ _ h => h.elim)).grown hg fun k e _ => e.symm
  refine ⟨⟨?_, fun g hg2 => ?_⟩, k5.mono (fun b _ e => h.hb b e.symm)⟩
  · rw [List.length_append, flatT_append]
    simpa [flatT] using ho
  · rcases hb with e | e
    · exact h.hb g (e ▸ hg2)
    · rw [e] at hg2
      have h1 : w1.heap.size = g := Option.some.inj hg2
      have := hk.size
      omega

set_option maxRecDepth 100000 in
set_option maxHeartbeats 8000000 in
theorem rall_any (s : ByteArray) (hs : s.size ≤ 1000) (w : World) : Calls Tryd.prog 18 #[.string s] w (AllE s.data.toList w) := by
  obtain ⟨l, hl⟩ : ∃ l : List UInt8, l = s.data.toList := ⟨_, rfl⟩
  have hlN : l.length = s.size := by rw [hl, len_size]
  rw [← hl]
  have HL := Lib.hid hl
  have HLN := Lib.hid hlN
  by_cases hbig : 600 < s.size
  · have hbigI : (600 : Int) < (s.size : Int) := by omega
    have hd : decide ((600 : Int) < (s.size : Int)) = true := decide_eq_true hbigI
    have hfin : AllE l w (.returned (.tuple #[.slice none 0 0, .int .i64 0, .int .i64 4])) w := ⟨by rw [hlN, if_pos hbig], Keeps.refl _ _⟩
    have HF := Lib.hid hfin
    clear hl hlN hfin
    go_enter Tryd.func18, Tryd.ntmps18
    go_wp2
    go_ret3
    exact HF.out
  have hbigI : ¬ (600 : Int) < (s.size : Int) := by omega
  have hd : decide ((600 : Int) < (s.size : Int)) = false := decide_eq_false hbigI
  obtain ⟨i0, hi, hz0, hz1, hz2⟩ := info_parts info33
  have S0 := rskip_any s hs 0 (Nat.zero_le _)
  rw [← hl] at S0
  have HS0 := Lib.hid S0
  clear hl hlN S0
  go_enter Tryd.func18, Tryd.ntmps18
  go_wp2_with fail
  refine (HS0.out _).mono ?_
  rintro e w1 ⟨⟨j, rfl, _, hjs, hlx, hgo⟩, hw⟩
  rw [List.drop_zero] at hlx
  generalize hwA : w.alloc _ = wA at hw ⊢
  obtain rfl : wA = w1 := hw.symm
  obtain ⟨B, hB⟩ : ∃ B, B = w.heap.size := ⟨_, rfl⟩
  have kA : Keeps (fun b => B ≤ b) w wA := by rw [← hwA]; exact (Keeps.refl _ _).alloc _
  have oA : OutR wA B (.slice (some ⟨w.heap.size, 0, none⟩) 0 0) [] := by
    refine ⟨by rw [← hwA]; exact World.ownsRow_made w #[] 0 (Nat.zero_le _) (by decide) rfl, fun g hg => ?_⟩
    have : w.heap.size = g := by simpa [Value.ownBlock] using hg
    omega
  have HBB := Lib.hid hB
  rw [← hB] at oA ⊢
  have KA := Lib.hid kA
  have OA := Lib.hid oA
  have HLX0 := Lib.hid hlx
  have HGO0 := Lib.hid hgo
  clear hw hwA kA oA hB hlx hgo HS0
  have SKC : Hid (∀ (i : Nat), i ≤ s.size → ∀ w, Calls Tryd.prog 45 #[.string s, .int .i64 i] w fun e w' => (∃ j : Nat, e = .returned (.int .i64 (j : Int)) ∧ i ≤ j ∧ j ≤ s.size ∧ lexL (l.drop j) j = lexL (l.drop i) i ∧ (j < s.size → ∃ c r, l.drop j = c :: r ∧ blk c = false ∧ isRem (c :: r) = false)) ∧ w' = w) := by
    rw [HL.out]
    exact Lib.hid fun i hi w => rskip_any s hs i hi w
  have ONC : Hid (∀ (i : Nat), i < s.size → ∀ w, Calls Tryd.prog 46 #[.string s, .int .i64 i] w (OneR l i w)) := by
    rw [HL.out]
    exact Lib.hid fun i hi w => one_any s hs i hi w
  go_wp2_with fail
  go_loopw [5, 6] (fun s5 s6 wr => ∃ (p : Nat) (done : List Tok), p ≤ s.size ∧ s6 = .int .i64 p ∧ done.length ≤ p ∧ OutR wr B s5 done ∧ lexL l 0 = (done ++ (lexL (l.drop p) p).1, (lexL (l.drop p) p).2) ∧
    (p < s.size → ∃ c r, l.drop p = c :: r ∧ blk c = false ∧ isRem (c :: r) = false) ∧ Keeps (fun b => B ≤ b) w wr) (fun _ s6 _ => s.size + 1 - (intOf s6).toNat)
  case atStart => exact ⟨j, [], hjs, rfl, Nat.zero_le _, OA.out, by rw [HLX0.out, List.nil_append], HGO0.out, KA.out⟩
  case round =>
    obtain ⟨p, done, hp, rfl, hdl, ho, hlex, hgo, kr⟩ := hrel
    obtain ⟨v, rfl⟩ : ∃ v, v = u5 := ⟨_, rfl⟩
    obtain ⟨n, hn⟩ : ∃ n : Nat, n = done.length := ⟨_, rfl⟩
    have HNn := Lib.hid hn
    have HDL : Hid (n ≤ p) := by rw [hn]; exact hdl
    have hn9 : n ≤ 1000 := by omega
    have KR := Lib.hid kr
    have HO := Lib.hid ho
    have HLX := Lib.hid hlex
    have hwB : B ≤ wr.heap.size := by have := kr.size; have := HBB.out; omega
    clear hdl ho hlex kr hn
    by_cases hpN : p < s.size
    · have hpI : (p : Int) < (s.size : Int) := by omega
      have hpd : decide ((p : Int) < (s.size : Int)) = true := decide_eq_true hpI
      obtain ⟨c, r, hdr, hbk, hrm⟩ := hgo hpN
      have OC := Lib.hid (ONC.out p hpN wr)
      have HDR := Lib.hid hdr
      have HBK := Lib.hid hbk
      have HRM := Lib.hid hrm
      have hrlen : (c :: r).length = s.size - p := by rw [← hdr, List.length_drop, HLN.out]
      have HRLn := Lib.hid hrlen
      clear hgo hdr hbk hrm hrlen
      go_wp2_with fail
      refine OC.out.mono ?_
      rintro e w3 ⟨⟨K, X, P, en, er, rfl, her, hok⟩, k3⟩
      rw [HDR.out] at her hok
      clear OC
      by_cases he : er = 0
      · subst he
        obtain ⟨h1, h2, h3, h4⟩ := hok rfl
        subst h3
        have hz := first_size (c :: r) (by simp) her.symm
        have hfin2 : lexL (l.drop P) P = (⟨K, X.data.toList, P⟩ :: (lexL (l.drop en) en).1, (lexL (l.drop en) en).2) := by
          rw [HDR.out, lexL_tok HBK.out HRM.out her.symm, ← h2, ← h1, h4, ← List.drop_drop, HDR.out]
        have hen : en ≤ s.size := by rw [h4]; have := hz.2; rw [HRLn.out] at this; omega
        have hen1 : P < en := by omega
        have HF2 := Lib.hid hfin2
        have HOW := Lib.hid (HO.out.keep k3)
        have KRB := Lib.hid (show B ≤ w3.heap.size by have := k3.size; omega)
        have K3 := Lib.hid k3
        have XL : Hid (X = ofL X.data.toList) := Lib.hid (ofL_of rfl)
        clear her hok h1 h2 h4 hz hfin2 k3
        have hcells : (⟨K, X.data.toList, P⟩ : Tok).cells = [.int .i64 (K : Int), .string X, .int .i64 (P : Int)] := by
          unfold Tok.cells
          rw [← XL.out]
        have HCE := Lib.hid hcells
        clear hcells
        go_upto_if 28 with fail
        generalize hw4 : w3.alloc _ = w4
        have k4 : Keeps (fun _ => False) wr w4 := by rw [← hw4]; exact K3.out.alloc _
        have c0 : w4.cell? ⟨w3.heap.size, 0, none⟩ = some (.int .i64 (K : Int)) := by rw [← hw4]; simp
        have c1 : w4.cell? ⟨w3.heap.size, 1, none⟩ = some (.string X) := by rw [← hw4]; simp
        have c2 : w4.cell? ⟨w3.heap.size, 2, none⟩ = some (.int .i64 (P : Int)) := by rw [← hw4]; simp
        have HOW := Lib.hid (HO.out.keep k4)
        have KRB := Lib.hid (show B ≤ w4.heap.size by have := k4.size; omega)
        have K4 := Lib.hid k4
        clear hw4 k4
        go_wp2_with (at_builtin; refine wpList_append_atk rfl (.tmp 31) (.tmp 33) 24 rfl 0 33 i0 _ 3 32 Tryd.underlying24 hi hz0 hz1 hz2 (by rfl) (by omega) v n (flatT done) (by rfl) (by rw [HNn.out]; exact own_of HOW.out.own ((Keeps.refl _ w4).alloc _)) ⟨w4.heap.size, 0, none⟩ 1 1 (⟨K, X.data.toList, P⟩ : Tok).cells (by rfl) (by rfl) (by rw [HCE.out]; exact (by have h := news3 (w := w4) ⟨K, X.data.toList, P⟩ 33 rfl; rw [HCE.out] at h; exact h)) (Tok.one _) (by omega) (by omega) (Nat.zero_le _) ?_
                     intro v5 w5 h5 g5 b5
                     obtain ⟨A5, c5', rfl⟩ := own_formk h5
                     have hm := HOW.out.more (by have := KRB.out; omega) ⟨K, X.data.toList, P⟩ ((Keeps.refl _ w4).alloc _) (by rw [← HNn.out]; exact h5) g5 b5
                     have HM := Lib.hid hm.1
                     have K5 := Lib.hid hm.2
                     clear hm h5 g5 b5)
        refine (SKC.out en hen w5).mono ?_
        rintro e w6 ⟨⟨j2, rfl, hj1, hj2, hlx2, hgo2⟩, hw⟩
        obtain rfl : w5 = w6 := hw.symm
        have HL2 := Lib.hid hlx2
        have HG2 := Lib.hid hgo2
        clear hw hlx2 hgo2
        go_wp2
        go_roundw
        case rel =>
          refine ⟨j2, done ++ [⟨K, X.data.toList, P⟩], hj2, rfl, ?_, HM.out, ?_, HG2.out, ?_⟩
          · rw [List.length_append, ← HNn.out]
            have := HDL.out
            show n + 1 ≤ j2
            omega
          · rw [HLX.out, HF2.out, HL2.out, List.append_assoc]
            rfl
          · exact (KR.out.trans K4.out (fun _ _ h => h.elim)).trans K5.out (fun _ _ h => h)
        case measure => simp [intOf]; omega
      · have he0 : ((er : Int) == 0) = false := by simp; omega
        have hfin : AllE l w (.returned (.tuple #[.slice none 0 0, .int .i64 (p : Int), .int .i64 (er : Int)])) (w3.alloc (.cells #[.int .i64 (K : Int), .string X, .int .i64 (P : Int)] 33)) := by
          refine ⟨?_, kback (KR.out.trans (k3.alloc _) (fun _ _ h => h.elim)) HBB.out⟩
          have hb : lexL (c :: r) p = ([], some (p, er)) := by rw [her]; exact lexL_bad HBK.out HRM.out (by rw [← her]; exact he)
          have e1 : (lexL l 0).2 = some (p, er) := by rw [HLX.out, HDR.out, hb]
          rw [HLN.out, if_neg hbig, e1]
        have HF := Lib.hid hfin
        clear her hok he hfin
        go_wp2
        go_ret3
        exact HF.out
    · obtain rfl : p = s.size := by omega
      have hpd : decide ((s.size : Int) < (s.size : Int)) = false := decide_eq_false (by omega)
      have HOW := HO
      have KRB := Lib.hid hwB
      have HCE : Hid ((⟨0, [], s.size⟩ : Tok).cells = [.int .i64 0, .string { data := #[] }, .int .i64 (s.size : Int)]) := Lib.hid rfl
      have hdn : l.drop s.size = [] := List.drop_of_length_le (by rw [HLN.out]; exact Nat.le_refl _)
      have hlxn : lexL l 0 = (done ++ [⟨0, [], s.size⟩], none) := by rw [HLX.out, hdn, lexL_nil]
      have HLXN := Lib.hid hlxn
      clear hdn hlxn hgo
      go_wp2_with (at_builtin; refine wpList_append_atk rfl (.tmp 38) (.tmp 42) 24 rfl 0 33 i0 _ 3 32 Tryd.underlying24 hi hz0 hz1 hz2 (by rfl) (by omega) v n (flatT done) (by rfl) (by rw [HNn.out]; exact own_of HOW.out.own ((Keeps.refl _ wr).alloc _)) ⟨wr.heap.size, 0, none⟩ 1 1 (⟨0, [], s.size⟩ : Tok).cells (by rfl) (by rfl) (by rw [HCE.out]; exact (by have h := news3 (w := wr) ⟨0, [], s.size⟩ 33 rfl; rw [HCE.out] at h; exact h)) (Tok.one _) (by omega) (by omega) (Nat.zero_le _) ?_
                   intro v5 w5 h5 g5 b5
                   obtain ⟨A5, c5', rfl⟩ := own_formk h5
                   have hm := HOW.out.more (by have := KRB.out; omega) ⟨0, [], s.size⟩ ((Keeps.refl _ wr).alloc _) (by rw [← HNn.out]; exact h5) g5 b5
                   have HM := Lib.hid hm.1
                   have K5 := Lib.hid hm.2
                   clear hm h5 g5 b5)
      obtain ⟨M, hM⟩ : ∃ M : List Tok, M = done ++ [⟨0, [], s.size⟩] := ⟨_, rfl⟩
      have hMl : M.length = n + 1 := by rw [hM, List.length_append, ← HNn.out]; rfl
      have hfin : AllE l w (.returned (.tuple #[.slice A5 (n + 1) c5', .int .i64 0, .int .i64 0])) w5 := by
        refine ⟨?_, kback (KR.out.trans K5.out (fun _ _ h => h)) HBB.out⟩
        rw [HLN.out, if_neg hbig, show (lexL l 0).2 = none by rw [HLXN.out]]
        show ∃ A c, _ = _ ∧ _
        have ho := HM.out
        rw [← hM] at ho
        rw [show (lexL l 0).1 = M by rw [HLXN.out, hM], ← hMl]
        refine ⟨A5, c5', rfl, ?_, fun g hg => ?_⟩
        · rw [hMl]
          have := ho.own
          rw [hMl] at this
          exact this
        · rw [hMl] at hg
          have h1 := ho.hb g hg
          have h2 := HBB.out
          omega
      have HF := Lib.hid hfin
      clear hfin hM hMl
      go_wp2
      go_ret3
      exact HF.out

end Go.Proofs.YtoombjbpblighaaDoor
