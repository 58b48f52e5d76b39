/-
  Layer 8: the document's Take. Written by an AI agent.
-/
import Derived.Test.YtoombjbpblighaaDoorRdB
import Derived.Deep.RegionHeld
namespace Go.Proofs.YtoombjbpblighaaDoor
open Go Go.RowKit Go.Shelf
set_option linter.unusedVariables false
set_option linter.unusedSimpArgs false

/-- What stands while the document's Take reads. -/
structure OutT (w0 w : World) (B : Nat) (s : RS) (vI vE : Value) (L : List Ins) (Z : List Int) : Prop where
  rd : Rdr w (B + 1) s
  oc : OutC w (B + 2) vI vE L Z
  tw : Two w B
  kw : Keeps (fun _ => False) w0 w
theorem OutT.keep {w0 w w' : World} {B : Nat} {s s' : RS} {vI vE : Value} {L : List Ins} {Z : List Int} (h : OutT w0 w B s vI vE L Z) (hB : B = w0.heap.size) (hk : Keeps (fun p => p = B + 1) w w') (hr : Rdr w' (B + 1) s') : OutT w0 w' B s' vI vE L Z :=
  ⟨hr, h.oc.keep hk (fun p hp e => by omega), h.tw.keep hk (by omega), h.kw.trans hk (fun p hp e => by omega)⟩
theorem OutT.keep0 {w0 w w' : World} {B : Nat} {s : RS} {vI vE : Value} {L : List Ins} {Z : List Int} (h : OutT w0 w B s vI vE L Z) (hk : Keeps (fun _ => False) w w') : OutT w0 w' B s vI vE L Z :=
  ⟨h.rd.keep hk, h.oc.keep hk (fun _ _ h => h), h.tw.keep hk (fun h => h), h.kw.trans hk (fun _ _ h => h)⟩
theorem OutT.moreE {w0 w w1 w5 : World} {B : Nat} {s : RS} {vI vE v5 : Value} {L : List Ins} {Z : List Int} (h : OutT w0 w B s vI vE L Z) (hB : B = w0.heap.size) (z : Int) (hk : Keeps (fun _ => False) w w1) (ho : w5.ownsRow 0 3 1 v5 (Z.length + 1) (valZ Z ++ [.int .i64 z])) (hg : w1.grownBy w5 vE.ownBlock)
    (hb : v5.ownBlock = vE.ownBlock ∨ v5.ownBlock = some w1.heap.size) :
    OutT w0 (w5.setCell ⟨B + 2, 1, none⟩ v5) B s vI v5 L (Z ++ [z]) ∧ w5.cell? ⟨B + 2, 1, none⟩ = some vE ∧ w5.frozen? ⟨B + 2, 1, none⟩ = false := by
  obtain ⟨h1, k1, c1, f1⟩ := h.oc.moreE z hk ho hg hb
  exact ⟨⟨h.rd.keepS k1 (fun p hp e => by omega), h1, h.tw.keep k1 (by omega), h.kw.trans k1 (fun p hp e => by omega)⟩, c1, f1⟩
theorem OutT.moreI {w0 w w1 w5 : World} {B : Nat} {s : RS} {vI vE v5 : Value} {L : List Ins} {Z : List Int} (h : OutT w0 w B s vI vE L Z) (hB : B = w0.heap.size) (x : Ins) (hk : Keeps (fun _ => False) w w1) (ho : w5.ownsRow 0 52 4 v5 (L.length + 1) (flatI L ++ x.cells)) (hg : w1.grownBy w5 vI.ownBlock)
    (hb : v5.ownBlock = vI.ownBlock ∨ v5.ownBlock = some w1.heap.size) :
    OutT w0 (w5.setCell ⟨B + 2, 0, none⟩ v5) B s v5 vE (L ++ [x]) Z ∧ w5.cell? ⟨B + 2, 0, none⟩ = some vI ∧ w5.frozen? ⟨B + 2, 0, none⟩ = false := by
  obtain ⟨h1, k1, c1, f1⟩ := h.oc.moreI x hk ho hg hb
  exact ⟨⟨h.rd.keepS k1 (fun p hp e => by omega), h1, h.tw.keep k1 (by omega), h.kw.trans k1 (fun p hp e => by omega)⟩, c1, f1⟩
theorem OutT.start (w : World) (B : Nat) (A : Option Addr) (l : List Int) (n c : Nat) (hB : B = w.heap.size) (hn : n = l.length) (hlc : l.length ≤ c) (hc : c ≤ 9223372036854775807) (ok : ∀ x ∈ l, 0 ≤ x ∧ x < 256) (h : RdB w w.heap.size A l) :
    OutT w (((w.alloc (.cells #[.slice none 0 0, .slice none 0 0] 41)).alloc (.cells #[.slice A n c, .int .i64 0] 77)).alloc (.cells #[.slice none 0 0, .slice none 0 0] 41)) B ⟨l, 0⟩ (.slice none 0 0) (.slice none 0 0) [] [] := by
  subst hB hn
  obtain ⟨q0, q1, q2, q3⟩ := two_new w (.slice none 0 0) (.slice none 0 0) 41 rfl
  obtain ⟨w1, hw1⟩ : ∃ w1, w1 = w.alloc (.cells #[.slice none 0 0, .slice none 0 0] 41) := ⟨_, rfl⟩
  have s1 : w1.heap.size = w.heap.size + 1 := by rw [hw1]; simp
  have k1 : Keeps (fun _ => False) w w1 := by rw [hw1]; exact (Keeps.refl _ _).alloc _
  rw [← hw1] at q0 q1 q2 q3 ⊢
  clear hw1
  obtain ⟨r0, r1, r2, r3⟩ := two_new w1 (.slice A l.length c) (.int .i64 0) 77 rfl
  obtain ⟨w2, hw2⟩ : ∃ w2, w2 = w1.alloc (.cells #[.slice A l.length c, .int .i64 0] 77) := ⟨_, rfl⟩
  have s2 : w2.heap.size = w.heap.size + 2 := by rw [hw2]; simp; omega
  have k2 : Keeps (fun _ => False) w1 w2 := by rw [hw2]; exact (Keeps.refl _ _).alloc _
  rw [← hw2, s1] at r0 r1 r2 r3
  rw [← hw2]
  clear hw2
  have k3 : Keeps (fun _ => False) w2 (w2.alloc (.cells #[.slice none 0 0, .slice none 0 0] 41)) := (Keeps.refl _ _).alloc _
  have k12 := k1.trans k2 (fun _ _ h => h)
  have hb2 : RdB w2 (w.heap.size + 1) A l := fun h0 => by
    obtain ⟨b, off, e, hbs, hcs⟩ := h h0
    exact ⟨b, off, e, by omega, fun k hk => (k12.cell (by omega) (fun h => h)).trans (hcs k hk)⟩
  have R2 : Rdr w2 (w.heap.size + 1) ⟨l, 0⟩ := ⟨A, c, r0, r1, r2, r3, hb2, hlc, hc, ok⟩
  have T : Two w2 w.heap.size := Two.keep ⟨q0, q1, q2, q3⟩ k2 (fun h => h)
  have S := OutC.start w2
  rw [s2] at S
  exact ⟨R2.keep k3, S, T.keep k3 (fun h => h), k12.trans k3 (fun _ _ h => h)⟩

set_option maxRecDepth 100000 in
set_option maxHeartbeats 16000000 in
theorem rtake_any (A : Option Addr) (c : Nat) (l : List Int) (hlc : l.length ≤ c) (hc : c ≤ 9223372036854775807) (ok : ∀ x ∈ l, 0 ≤ x ∧ x < 256) (w : World) (h : RdB w w.heap.size A l) :
    Calls Tryd.prog 31 #[.slice A l.length c] w (TakeE l w) := by
  obtain ⟨i3, hi3, h3z0, h3z1, h3z2⟩ := info_parts info3
  obtain ⟨i52, hi52, h52z0, h52z1, h52z2⟩ := info_parts info52
  obtain ⟨B, hB⟩ : ∃ B, B = w.heap.size := ⟨_, rfl⟩
  obtain ⟨ll, hll⟩ : ∃ n, n = l.length := ⟨_, rfl⟩
  have HST := Lib.hid (OutT.start w B A l ll c hB hll hlc hc ok h)
  have HB := Lib.hid hB
  obtain ⟨s, hs⟩ : ∃ s : RS, s = ⟨l, 0⟩ := ⟨_, rfl⟩
  rw [← hs] at HST
  have hop := HST.out.rd.byte
  obtain ⟨m, hm⟩ : ∃ m, m = (oneE s).2 := ⟨_, rfl⟩
  rw [← hm] at hop
  obtain ⟨r0, hr0⟩ : ∃ r0, r0 = (oneE s).1 := ⟨_, rfl⟩
  obtain ⟨s1, hs1⟩ : ∃ s1, s1 = needE (decide (m ≤ 6)) r0 := ⟨_, rfl⟩
  obtain ⟨q, hq⟩ : ∃ q, q = entsE m.toNat s1 := ⟨_, rfl⟩
  obtain ⟨n, hn⟩ : ∃ n, n = (numE q.1).2 := ⟨_, rfl⟩
  obtain ⟨s2, hs2⟩ : ∃ s2, s2 = needE (decide (0 ≤ n) && decide (n ≤ 1200)) (numE q.1).1 := ⟨_, rfl⟩
  obtain ⟨s3, hs3⟩ : ∃ s3, s3 = entE n q.2 s2 := ⟨_, rfl⟩
  obtain ⟨t, ht⟩ : ∃ t, t = inssE n.toNat s3 := ⟨_, rfl⟩
  have HC : Hid (TakeE l w = TakeP (t.1, t.2, q.2) w) := Lib.hid (by unfold TakeE; rw [← hs, ht, hs3, hs2, hn, hq, hs1, hr0, hm]; rfl)
  have OC : Hid (∀ w, Rdr w (B + 1) s → Calls Tryd.prog 55 #[.pointer (some ⟨B + 1, 0, none⟩)] w fun e w' => e = .returned (.int .i64 m) ∧ Rdr w' (B + 1) r0 ∧ Keeps (fun p => p = B + 1) w w') := Lib.hid (by rw [hm, hr0]; exact fun w h => rone_any (B + 1) s w h)
  have NC : Hid (∀ w, Rdr w (B + 1) r0 → Calls Tryd.prog 56 #[.pointer (some ⟨B + 1, 0, none⟩), .bool (decide (m ≤ 6))] w fun e w' => e = .returned (.tuple #[]) ∧ Rdr w' (B + 1) s1 ∧ Keeps (fun p => p = B + 1) w w') := Lib.hid (by rw [hs1]; exact fun w h => corrupt_any (B + 1) _ r0 w h)
  have ND : Hid (∀ w, Rdr w (B + 1) q.1 → Calls Tryd.prog 57 #[.pointer (some ⟨B + 1, 0, none⟩)] w fun e w' => e = .returned (.int .i64 n) ∧ Rdr w' (B + 1) (numE q.1).1 ∧ Keeps (fun p => p = B + 1) w w') := Lib.hid (by rw [hn]; exact fun w h => rnumb_any (B + 1) q.1 w h)
  have NE : Hid (∀ w b, b = (decide (0 ≤ n) && decide (n ≤ 1200)) → Rdr w (B + 1) (numE q.1).1 → Calls Tryd.prog 56 #[.pointer (some ⟨B + 1, 0, none⟩), .bool b] w fun e w' => e = .returned (.tuple #[]) ∧ Rdr w' (B + 1) s2 ∧ Keeps (fun p => p = B + 1) w w') := Lib.hid (by rw [hs2]; exact fun w b hb h => hb ▸ corrupt_any (B + 1) _ _ w h)
  have HQ := Lib.hid hq
  have HS3 := Lib.hid hs3
  have HT := Lib.hid ht
  have hn8 : n ≤ 9223372036854775807 ∧ -9223372036854775808 ≤ n := by rw [hn]; show wrap64 _ ≤ _ ∧ _ ≤ wrap64 _; unfold wrap64; omega
  have H1200 : Hid (s3.e = 0 → n ≤ 1200) := Lib.hid (fun g => by
    rw [hs3] at g
    have g2 := (entE_ok n q.2 s2 g).1
    rw [hs2] at g2
    have g3 := (needE_ok g2).1
    rw [Bool.and_eq_true, decide_eq_true_eq, decide_eq_true_eq] at g3
    exact g3.2)
  rw [HC.out, ← hll]
  clear hm hr0 hs1 hq hn hs2 hs3 ht h hB hs hll hlc hc ok HC
  go_enter Tryd.func31, Tryd.ntmps31
  go_upto_region 3 with fail
  rw [← HB.out]
  generalize ((w.alloc _).alloc _).alloc _ = wz at HST ⊢
  go_wp2_with fail
  refine (OC.out wz HST.out.rd).mono ?_
  rintro e w1 ⟨rfl, r1, k1⟩
  have HD1 := Lib.hid (HST.out.keep HB.out k1 r1)
  clear k1 r1 HST OC
  go_wp2_with fail
  refine (NC.out w1 HD1.out.rd).mono ?_
  rintro e w2 ⟨rfl, r2, k2⟩
  have HD2 := Lib.hid (HD1.out.keep HB.out k2 r2)
  clear k2 r2 HD1 NC
  go_upto_block 0 with fail
  go_cut [7, 8] from 23 to 42 (fun s7 s8 wx => ∃ vE, OutT w wx B q.1 (.slice none 0 0) vE [] q.2 ∧ q.2.length ≤ 256)
  case first =>
    go_wp2_with fail
    go_loopw [7, 8] (fun s7 s8 wr => ∃ (i : Nat) (vE : Value) (si : RS) (Zi : List Int), (i : Int) ≤ m ∧ s7 = .int .i64 i ∧ OutT w wr B si (.slice none 0 0) vE [] Zi ∧ Zi.length = i ∧ q = ((entsE (m.toNat - i) si).1, Zi ++ (entsE (m.toNat - i) si).2)) (fun s7 _ _ => 256 - (intOf s7).toNat)
    case atStart => exact ⟨0, _, s1, [], by omega, rfl, HD2.out, rfl, by rw [HQ.out]; simp⟩
    case round =>
      obtain ⟨i, vE, si, Zi, him, rfl, hd, hzl, hqi⟩ := hrel
      have HD := Lib.hid hd
      have HQI := Lib.hid hqi
      have HZL := Lib.hid hzl
      obtain ⟨A0, c0, rs⟩ := hd.rd
      have e1 := rs.c1
      clear hd hqi hzl rs
      go_upto_region 6 with fail
      go_cut [32] from 23 to 42 (fun s25 wx => s25 = .bool (decide ((i : Int) < m ∧ si.e = 0)) ∧ wx = wr)
      case first =>
        by_cases h1 : (i : Int) < m
        · have h1d : decide ((i : Int) < m) = true := decide_eq_true h1
          by_cases h2 : si.e = 0
          · have h2I : (si.e : Int) = 0 := by omega
            have h2d : decide ((si.e : Int) = 0) = true := decide_eq_true h2I
            rw [h2I] at e1
            have hb : Hid (decide ((i : Int) < m ∧ si.e = 0) = true) := Lib.hid (decide_eq_true ⟨h1, h2⟩)
            go_wp2
            go_meet
            exact ⟨by rw [hb.out], rfl⟩
          · have h2I : ¬ (si.e : Int) = 0 := by omega
            have h2d : decide ((si.e : Int) = 0) = false := decide_eq_false h2I
            have hb : Hid (decide ((i : Int) < m ∧ si.e = 0) = false) := Lib.hid (decide_eq_false (fun h => h2 h.2))
            obtain ⟨ev, hev⟩ : ∃ ev, ev = (si.e : Int) := ⟨_, rfl⟩
            rw [← hev] at e1 h2I h2d
            have hbq : Hid ((ev == 0) = false) := Lib.hid (by simpa using h2I)
            clear hev h2
            go_wp2
            go_meet
            exact ⟨by rw [hb.out, hbq.out], rfl⟩
        · have h1d : decide ((i : Int) < m) = false := decide_eq_false h1
          have hb : Hid (decide ((i : Int) < m ∧ si.e = 0) = false) := Lib.hid (decide_eq_false (fun h => h1 h.1))
          go_wp2
          go_meet
          exact ⟨by rw [hb.out], rfl⟩
      case rest =>
        obtain ⟨rfl, hwc⟩ := hcut
        rw [hwc]
        clear hwc
        by_cases hc : (i : Int) < m ∧ si.e = 0
        · have hcd : decide ((i : Int) < m ∧ si.e = 0) = true := decide_eq_true hc
          rw [hcd]
          obtain ⟨z, hz⟩ : ∃ z, z = (numE si).2 := ⟨_, rfl⟩
          have NA := rnumb_any (B + 1) si wr HD.out.rd
          rw [← hz] at NA
          have NAH := Lib.hid NA
          have hzl9 : Zi.length ≤ 256 := by have := HZL.out; omega
          have him2 : (i : Int) + 1 ≤ m := by have := hc.1; omega
          have HQ2 : Hid (q = ((entsE (m.toNat - (i + 1)) (numE si).1).1, (Zi ++ [z]) ++ (entsE (m.toNat - (i + 1)) (numE si).1).2)) := Lib.hid (by
            have h := entsE_snoc (m.toNat - (i + 1)) si hc.2 Zi (T := q) (by rw [show m.toNat - (i + 1) + 1 = m.toNat - i by omega]; exact HQI.out)
            rw [hz]
            exact h)
          have HZL2 : Hid ((Zi ++ [z]).length = i + 1) := Lib.hid (by rw [List.length_append, HZL.out]; rfl)
          obtain ⟨zl, hzl⟩ : ∃ zl, zl = Zi.length := ⟨_, rfl⟩
          rw [← hzl] at hzl9
          have HZn := Lib.hid hzl
          clear hz NA hzl e1 hcd hc
          go_wp2_with fail
          refine NAH.out.mono ?_
          rintro e w2 ⟨rfl, r2, k2⟩
          have HDx := Lib.hid (HD.out.keep HB.out k2 r2)
          have d1 := HDx.out.oc.c1
          have hC2 := HDx.out.oc.lt
          clear r2 k2 NAH
          go_wp2_with (at_builtin
                       refine wpList_append_atk rfl (.tmp 38) (.tmp 40) 39 rfl 0 3 i3 _ 1 8 Tryd.underlying39 hi3 h3z0 h3z1 h3z2 (by rfl) (by omega) vE zl (valZ Zi) (by rfl) (by rw [HZn.out]; exact (HDx.out.oc.keep ((Keeps.refl (fun _ => False) w2).alloc _) (fun _ _ h => h)).oE) ⟨w2.heap.size, 0, none⟩ 1 1 (valZ [z]) (by rfl) (by rfl) (news1 _ 3 rfl) (valZ_one _) (by omega) (by omega) (Nat.zero_le _) ?_
                       intro v5 w5 h5 g5 b5
                       obtain ⟨A5, c5', rfl⟩ := own_formk h5
                       have hmm := HDx.out.moreE HB.out z ((Keeps.refl (fun _ => False) w2).alloc _) (by rw [← HZn.out]; exact h5) g5 b5
                       have HM := Lib.hid hmm.1
                       have m1 := hmm.2.1
                       have m2 := hmm.2.2
                       clear hmm h5 g5 b5)
          have HMM := HM.out
          go_roundw
          case rel => exact ⟨i + 1, _, (numE si).1, Zi ++ [z], by omega, by go_num, HM.out, HZL2.out, HQ2.out⟩
          case measure => simp [intOf]; omega
        · have hcd : decide ((i : Int) < m ∧ si.e = 0) = false := decide_eq_false hc
          rw [hcd]
          have hfin : Hid (q = (si, Zi)) := Lib.hid (by rw [HQI.out, entsE_end _ _ (by rcases Decidable.not_and_iff_or_not.1 hc with h | h; exact .inl (by omega); exact .inr h)]; simp)
          clear hc hcd
          go_wp2
          go_meet
          exact ⟨vE, by rw [hfin.out]; exact HD.out, by rw [hfin.out]; have := HZL.out; show Zi.length ≤ 256; omega⟩
  case rest =>
    obtain ⟨vE, hd, hq256⟩ := hcut
    have HD3 := Lib.hid hd
    clear hd HD2 HQ hop
    go_wp2_with fail
    refine (ND.out wc HD3.out.rd).mono ?_
    rintro e w3 ⟨rfl, r3, k3⟩
    have HD4 := Lib.hid (HD3.out.keep HB.out k3 r3)
    clear k3 r3 HD3 ND
    go_upto_region 11 with fail
    go_cut [9] from 43 to 52 (fun s9 wx => s9 = .int .i64 n ∧ OutT w wx B s2 (.slice none 0 0) vE [] q.2)
    case first =>
      by_cases g1 : 0 ≤ n
      · have g1d : decide (0 ≤ n) = true := decide_eq_true g1
        by_cases g2 : n ≤ 1200
        · have g2d : decide (n ≤ 1200) = true := decide_eq_true g2
          have NX := Lib.hid (NE.out w3 true (by rw [g1d, g2d]; rfl) HD4.out.rd)
          go_wp2_with fail
          refine NX.out.mono ?_
          rintro e w4 ⟨rfl, r4, k4⟩
          have HD5 := Lib.hid (HD4.out.keep HB.out k4 r4)
          clear k4 r4 NX
          go_wp2
          go_meet
          exact ⟨rfl, HD5.out⟩
        · have g2d : decide (n ≤ 1200) = false := decide_eq_false g2
          have NX := Lib.hid (NE.out w3 false (by rw [g1d, g2d]; rfl) HD4.out.rd)
          go_wp2_with fail
          refine NX.out.mono ?_
          rintro e w4 ⟨rfl, r4, k4⟩
          have HD5 := Lib.hid (HD4.out.keep HB.out k4 r4)
          clear k4 r4 NX
          go_wp2
          go_meet
          exact ⟨rfl, HD5.out⟩
      · have g1d : decide (0 ≤ n) = false := decide_eq_false g1
        have NX := Lib.hid (NE.out w3 false (by rw [g1d]; rfl) HD4.out.rd)
        go_wp2_with fail
        refine NX.out.mono ?_
        rintro e w4 ⟨rfl, r4, k4⟩
        have HD5 := Lib.hid (HD4.out.keep HB.out k4 r4)
        clear k4 r4 NX
        go_wp2
        go_meet
        exact ⟨rfl, HD5.out⟩
    case rest =>
      obtain ⟨rfl, hd⟩ := hcut
      have HD5 := Lib.hid hd
      have oe := hd.oc.oE
      obtain ⟨AE, cE, rfl⟩ := own_formk oe
      obtain ⟨zn, hzn⟩ : ∃ zn, zn = q.2.length := ⟨_, rfl⟩
      rw [← hzn] at oe
      have hrz : Hid (∀ wq, Keeps (fun p => p = B + 1) wc wq → RdZ wq AE q.2) := Lib.hid (fun wq kq => own_rdZ (ownsRow_keep oe fun k hk => kq.block k (own_ltk oe hk) (fun e => by have := hd.oc.bE k (by rw [← hzn]; exact hk); omega)) hzn)
      have hzl6 : zn ≤ 100000 := by omega
      have HZn := Lib.hid hzn
      clear hd oe hzn HD4 NE hq256
      go_upto_block 2 with fail
      go_cut [10] from 53 to 76 (fun s10 wx => OutT w wx B s3 (.slice none 0 0) (.slice AE q.2.length cE) [] q.2)
      case first =>
        go_wp2_with fail
        go_loopw [10] (fun s10 wr => ∃ j : Nat, j ≤ zn ∧ s10 = .int .i64 j ∧ OutT w wr B (entE n (q.2.take j) s2) (.slice none 0 0) (.slice AE q.2.length cE) [] q.2 ∧ Keeps (fun p => p = B + 1) wc wr) (fun s10 _ => zn - (intOf s10).toNat)
        case atStart => exact ⟨0, Nat.zero_le _, rfl, HD5.out, Keeps.refl _ _⟩
        case round =>
          obtain ⟨j, hjz, rfl, hd, kr⟩ := hrel
          have HD6 := Lib.hid hd
          have KR := Lib.hid kr
          have c1r := hd.oc.c1
          have hCr := hd.oc.lt
          rw [← HZn.out] at c1r
          clear hd kr
          by_cases hj : j < zn
          · have hjI : (j : Int) < (zn : Int) := by omega
            have hjd : decide ((j : Int) < (zn : Int)) = true := decide_eq_true hjI
            have hj0 : (0 : Int) ≤ (j : Int) := by omega
            have hjq : j < q.2.length := by rw [← HZn.out]; exact hj
            obtain ⟨b, off, hAE, hc⟩ := hrz.out wr KR.out (by omega)
            have hcj := hc j hjq
            obtain ⟨a, ha⟩ : ∃ a, a = q.2.getD j 0 := ⟨_, rfl⟩
            rw [← ha] at hcj
            have HSN : Hid (entE n (q.2.take (j + 1)) s2 = needE (decide (0 ≤ a) && decide (a ≤ n)) (entE n (q.2.take j) s2)) := Lib.hid (by rw [ha]; exact entE_take n q.2 j hjq s2)
            have NF : Hid (∀ wq b, b = (decide (0 ≤ a) && decide (a ≤ n)) → OutT w wq B (entE n (q.2.take j) s2) (.slice none 0 0) (.slice AE q.2.length cE) [] q.2 → Keeps (fun p => p = B + 1) wc wq →
                Calls Tryd.prog 56 #[.pointer (some ⟨B + 1, 0, none⟩), .bool b] wq fun e w' => e = .returned (.tuple #[]) ∧ OutT w w' B (entE n (q.2.take (j + 1)) s2) (.slice none 0 0) (.slice AE q.2.length cE) [] q.2 ∧ Keeps (fun p => p = B + 1) wc w') := Lib.hid (fun wq b hb hd kq => by
              subst hb
              refine (corrupt_any (B + 1) _ _ wq hd.rd).mono fun e w' ⟨h1, h2, h3⟩ => ⟨h1, ?_, kq.trans h3 (fun _ _ h => h)⟩
              rw [HSN.out]
              exact hd.keep HB.out h3 h2)
            clear hc ha hjq
            subst hAE
            go_upto_block 3 with fail
            go_cut [] from 57 to 76 (fun wx => OutT w wx B (entE n (q.2.take (j + 1)) s2) (.slice none 0 0) (.slice (some ⟨b, off, none⟩) q.2.length cE) [] q.2 ∧ Keeps (fun p => p = B + 1) wc wx)
            case first =>
              by_cases g1 : 0 ≤ a
              · have g1d : decide (0 ≤ a) = true := decide_eq_true g1
                by_cases g2 : a ≤ n
                · have g2d : decide (a ≤ n) = true := decide_eq_true g2
                  have NX := Lib.hid (NF.out wr true (by rw [g1d, g2d]; rfl) HD6.out KR.out)
                  go_wp2_with fail
                  refine NX.out.mono ?_
                  rintro e w4 ⟨rfl, r4, k4⟩
                  have HR4 := Lib.hid r4
                  have HK4 := Lib.hid k4
                  clear k4 r4 NX
                  go_wp2
                  go_meet
                  exact ⟨HR4.out, HK4.out⟩
                · have g2d : decide (a ≤ n) = false := decide_eq_false g2
                  have NX := Lib.hid (NF.out wr false (by rw [g1d, g2d]; rfl) HD6.out KR.out)
                  go_wp2_with fail
                  refine NX.out.mono ?_
                  rintro e w4 ⟨rfl, r4, k4⟩
                  have HR4 := Lib.hid r4
                  have HK4 := Lib.hid k4
                  clear k4 r4 NX
                  go_wp2
                  go_meet
                  exact ⟨HR4.out, HK4.out⟩
              · have g1d : decide (0 ≤ a) = false := decide_eq_false g1
                have NX := Lib.hid (NF.out wr false (by rw [g1d]; rfl) HD6.out KR.out)
                go_wp2_with fail
                refine NX.out.mono ?_
                rintro e w4 ⟨rfl, r4, k4⟩
                have HR4 := Lib.hid r4
                have HK4 := Lib.hid k4
                clear k4 r4 NX
                go_wp2
                go_meet
                exact ⟨HR4.out, HK4.out⟩
            case rest =>
              obtain ⟨hd, kr⟩ := hcut
              have HD7 := Lib.hid hd
              have KR7 := Lib.hid kr
              clear hd kr NF HSN c1r hcj
              go_wp2
              go_roundw
              case rel => exact ⟨j + 1, by omega, by go_num, HD7.out, KR7.out⟩
              case measure => simp [intOf]; omega
          · obtain rfl : j = zn := by omega
            have hjd : decide ((j : Int) < (j : Int)) = false := decide_eq_false (by omega)
            have hfin : Hid (entE n (q.2.take j) s2 = s3) := Lib.hid (by rw [HS3.out, List.take_of_length_le (by rw [← HZn.out]; exact Nat.le_refl _)])
            go_wp2
            go_meet
            rw [← hfin.out]
            exact HD6.out
      case rest =>
        have HD8 := Lib.hid hcut
        clear hcut HD5 hrz HZn hzl6
        go_upto_block 4 with fail
        go_cut [11, 12] from 77 to 96 (fun s11 s12 wx => ∃ vI, OutT w wx B t.1 vI (.slice AE q.2.length cE) t.2 q.2)
        case first =>
          obtain ⟨vE, hvE⟩ : ∃ vE : Value, vE = .slice AE q.2.length cE := ⟨_, rfl⟩
          rw [← hvE] at HD8
          have HVE := Lib.hid hvE
          clear hvE
          go_wp2_with fail
          go_loopw [11, 12] (fun s11 s12 wr => ∃ (i : Nat) (vI : Value) (si : RS) (Li : List Ins), i ≤ 1200 ∧ s11 = .int .i64 i ∧ OutT w wr B si vI vE Li q.2 ∧ Li.length = i ∧ t = ((inssE (n.toNat - i) si).1, Li ++ (inssE (n.toNat - i) si).2) ∧ (i = 0 → si = s3) ∧ (0 < i → n ≤ 1200)) (fun s11 _ _ => 1201 - (intOf s11).toNat)
          case atStart => exact ⟨0, _, s3, [], Nat.zero_le _, rfl, HD8.out, rfl, by rw [HT.out]; simp, fun _ => rfl, fun h => absurd h (Nat.lt_irrefl _)⟩
          case round =>
            obtain ⟨i, vI, si, Li, hi12, rfl, hd, hzl, hqi, hsi, hni⟩ := hrel
            have HD := Lib.hid hd
            have HQI := Lib.hid hqi
            have HZL := Lib.hid hzl
            have HSI := Lib.hid hsi
            have HNI := Lib.hid hni
            obtain ⟨A0, c0, rs⟩ := hd.rd
            have e1 := rs.c1
            clear hd hqi hzl rs hsi hni
            go_upto_region 17 with fail
            go_cut [86] from 77 to 96 (fun s25 wx => s25 = .bool (decide ((i : Int) < n ∧ si.e = 0)) ∧ wx = wr)
            case first =>
              by_cases h1 : (i : Int) < n
              · have h1d : decide ((i : Int) < n) = true := decide_eq_true h1
                by_cases h2 : si.e = 0
                · have h2I : (si.e : Int) = 0 := by omega
                  have h2d : decide ((si.e : Int) = 0) = true := decide_eq_true h2I
                  rw [h2I] at e1
                  have hb : Hid (decide ((i : Int) < n ∧ si.e = 0) = true) := Lib.hid (decide_eq_true ⟨h1, h2⟩)
                  go_wp2
                  go_meet
                  exact ⟨by rw [hb.out], rfl⟩
                · have h2I : ¬ (si.e : Int) = 0 := by omega
                  have h2d : decide ((si.e : Int) = 0) = false := decide_eq_false h2I
                  have hb : Hid (decide ((i : Int) < n ∧ si.e = 0) = false) := Lib.hid (decide_eq_false (fun h => h2 h.2))
                  obtain ⟨ev, hev⟩ : ∃ ev, ev = (si.e : Int) := ⟨_, rfl⟩
                  rw [← hev] at e1 h2I h2d
                  have hbq : Hid ((ev == 0) = false) := Lib.hid (by simpa using h2I)
                  clear hev h2
                  go_wp2
                  go_meet
                  exact ⟨by rw [hb.out, hbq.out], rfl⟩
              · have h1d : decide ((i : Int) < n) = false := decide_eq_false h1
                have hb : Hid (decide ((i : Int) < n ∧ si.e = 0) = false) := Lib.hid (decide_eq_false (fun h => h1 h.1))
                go_wp2
                go_meet
                exact ⟨by rw [hb.out], rfl⟩
            case rest =>
              obtain ⟨rfl, hwc⟩ := hcut
              rw [hwc]
              clear hwc
              by_cases hc : (i : Int) < n ∧ si.e = 0
              · have hcd : decide ((i : Int) < n ∧ si.e = 0) = true := decide_eq_true hc
                rw [hcd]
                have hn12 : n ≤ 1200 := by
                  rcases Nat.eq_zero_or_pos i with h0 | h0
                  · have h1 := hc.2
                    rw [HSI.out h0] at h1
                    exact H1200.out h1
                  · exact HNI.out h0
                obtain ⟨x, hx⟩ : ∃ x, x = (insE si).2 := ⟨_, rfl⟩
                have NA := rins_any (B + 1) si wr HD.out.rd
                rw [← hx] at NA
                have NAH := Lib.hid NA
                have hzl9 : Li.length ≤ 1200 := by have := HZL.out; omega
                have him2 : i + 1 ≤ 1200 := by have := hc.1; omega
                have HQ2 : Hid (t = ((inssE (n.toNat - (i + 1)) (insE si).1).1, (Li ++ [x]) ++ (inssE (n.toNat - (i + 1)) (insE si).1).2)) := Lib.hid (by
                  have h := inssE_snoc (n.toNat - (i + 1)) si hc.2 Li (T := t) (by rw [show n.toNat - (i + 1) + 1 = n.toNat - i by have := hc.1; omega]; exact HQI.out)
                  rw [hx]
                  exact h)
                have HZL2 : Hid ((Li ++ [x]).length = i + 1) := Lib.hid (by rw [List.length_append, HZL.out]; rfl)
                obtain ⟨zl, hzl⟩ : ∃ zl, zl = Li.length := ⟨_, rfl⟩
                rw [← hzl] at hzl9
                have HZn := Lib.hid hzl
                have HN12 : Hid (n ≤ 1200) := Lib.hid hn12
                clear hx NA hzl e1 hcd hc hn12
                go_wp2_with fail
                refine NAH.out.mono ?_
                rintro e w2 ⟨rfl, r2, k2⟩
                have HDx := Lib.hid (HD.out.keep HB.out k2 r2)
                clear r2 k2 NAH
                go_upto_region 20 with fail
                generalize hwy : w2.alloc _ = wy
                have hky : Keeps (fun _ => False) w2 wy := by rw [← hwy]; exact (Keeps.refl _ _).alloc _
                have HDy := Lib.hid (HDx.out.keep0 hky)
                obtain ⟨PY, hPY⟩ : ∃ PY, PY = w2.heap.size := ⟨_, rfl⟩
                have y0 : wy.cell? ⟨PY, 0, none⟩ = some (.int .i64 x.o) := by rw [← hwy, hPY]; simp
                have y1 : wy.cell? ⟨PY, 1, none⟩ = some (.int .i64 x.a) := by rw [← hwy, hPY]; simp
                have y2 : wy.cell? ⟨PY, 2, none⟩ = some (.int .i64 x.b) := by rw [← hwy, hPY]; simp
                have y3 : wy.cell? ⟨PY, 3, none⟩ = some (.string x.s) := by rw [← hwy, hPY]; simp
                rw [← hPY]
                have d1 := HDy.out.oc.c0
                have hC2 := HDy.out.oc.lt
                have hPl := cell_ltk y0
                clear hwy hky hPY HDx
                go_wp2_with (at_builtin
                             refine wpList_append_atk rfl (.tmp 92) (.tmp 94) 38 rfl 0 52 i52 _ 4 40 Tryd.underlying38 hi52 h52z0 h52z1 h52z2 (by rfl) (by omega) vI zl (flatI Li) (by rfl) (by rw [HZn.out]; exact (HDy.out.oc.keep ((Keeps.refl (fun _ => False) wy).alloc _) (fun _ _ h => h)).oI) ⟨wy.heap.size, 0, none⟩ 1 1 x.cells (by rfl) (by rfl) (news4 x 52 rfl) (Ins.one x) (by omega) (by omega) (Nat.zero_le _) ?_
                             intro v5 w5 h5 g5 b5
                             obtain ⟨A5, c5', rfl⟩ := own_formk h5
                             have hmm := HDy.out.moreI HB.out x ((Keeps.refl (fun _ => False) wy).alloc _) (by rw [← HZn.out]; exact h5) g5 b5
                             have HM := Lib.hid hmm.1
                             have m1 := hmm.2.1
                             have m2 := hmm.2.2
                             clear hmm h5 g5 b5)
                have HMM := HM.out
                go_roundw
                case rel => exact ⟨i + 1, _, (insE si).1, Li ++ [x], him2, by go_num, HM.out, HZL2.out, HQ2.out, fun h => absurd h (by omega), fun _ => HN12.out⟩
                case measure => simp [intOf]; omega
              · have hcd : decide ((i : Int) < n ∧ si.e = 0) = false := decide_eq_false hc
                rw [hcd]
                have hfin : Hid (t = (si, Li)) := Lib.hid (by rw [HQI.out, inssE_end _ _ (by rcases Decidable.not_and_iff_or_not.1 hc with h | h; exact .inl (by omega); exact .inr h)]; simp)
                clear hc hcd
                go_wp2
                go_meet
                exact ⟨vI, by have h := HD.out; rw [HVE.out] at h; rw [hfin.out]; exact h⟩
        case rest =>
          obtain ⟨vI, hd⟩ := hcut
          clear HD8 HT HS3 H1200
          obtain ⟨b, hb⟩ : ∃ b, b = decide (t.1.l = []) := ⟨_, rfl⟩
          obtain ⟨s9, hs9⟩ : ∃ s9, s9 = needE b t.1 := ⟨_, rfl⟩
          have HS9 : Hid ((s9.e = 0 → t.1.e = 0 ∧ t.1.l = []) ∧ (s9.e ≠ 0 → ¬ (t.1.e = 0 ∧ t.1.l = []) ∧ (s9.e : Int) = if t.1.e = 0 then 3 else (t.1.e : Int))) := Lib.hid (by
            rw [hs9, hb]
            unfold needE
            by_cases h1 : t.1.e = 0
            · by_cases h2 : t.1.l = []
              · have hd : decide (t.1.l = []) = true := decide_eq_true h2
                rw [hd, if_neg (by simp)]
                exact ⟨fun _ => ⟨h1, h2⟩, fun h => absurd h1 h⟩
              · have hd : decide (t.1.l = []) = false := decide_eq_false h2
                rw [hd, if_pos ⟨h1, rfl⟩, if_pos h1]
                exact ⟨fun h => by simp at h, fun _ => ⟨fun h => h2 h.2, rfl⟩⟩
            · rw [if_neg (fun h => h1 h.1), if_neg h1]
              exact ⟨fun h => absurd h h1, fun _ => ⟨fun h => h1 h.1, rfl⟩⟩)
          have NX : Hid (∀ bb, bb = b → Calls Tryd.prog 56 #[.pointer (some ⟨B + 1, 0, none⟩), .bool bb] wc fun e w' => e = .returned (.tuple #[]) ∧ Rdr w' (B + 1) s9 ∧ Keeps (fun p => p = B + 1) wc w') := Lib.hid (fun bb h => by rw [h, hs9]; exact corrupt_any (B + 1) b t.1 wc hd.rd)
          obtain ⟨A3, c3, rs⟩ := hd.rd
          have d0 := rs.c0
          obtain ⟨tn, htn⟩ : ∃ tn, tn = t.1.l.length := ⟨_, rfl⟩
          rw [← htn] at d0
          have hbn : Hid (b = decide ((tn : Int) = 0)) := Lib.hid (by rw [hb, htn]; exact decide_eq_decide.2 ⟨fun h => by rw [h]; rfl, fun h => List.eq_nil_of_length_eq_zero (by omega)⟩)
          have HD9 := Lib.hid hd
          clear hd hb hs9 rs htn
          go_upto_region 21 with fail
          go_cut [] from 97 to 104 (fun wx => ∃ vI, OutT w wx B s9 vI (.slice AE q.2.length cE) t.2 q.2)
          case first =>
            by_cases ht0 : (tn : Int) = 0
            · have ht0d : decide ((tn : Int) = 0) = true := decide_eq_true ht0
              have ht0b : ((tn : Int) == 0) = true := by simpa using ht0
              have NY := Lib.hid (NX.out true (by rw [hbn.out, ht0d]))
              clear ht0
              go_wp2_with fail
              refine NY.out.mono ?_
              rintro e w5 ⟨rfl, r5, k5⟩
              have HX5 := Lib.hid (HD9.out.keep HB.out k5 r5)
              clear r5 k5 NY
              go_wp2
              go_meet
              exact ⟨vI, HX5.out⟩
            · have ht0d : decide ((tn : Int) = 0) = false := decide_eq_false ht0
              have ht0b : ((tn : Int) == 0) = false := by simpa using ht0
              have NY := Lib.hid (NX.out false (by rw [hbn.out, ht0d]))
              clear ht0
              go_wp2_with fail
              refine NY.out.mono ?_
              rintro e w5 ⟨rfl, r5, k5⟩
              have HX5 := Lib.hid (HD9.out.keep HB.out k5 r5)
              clear r5 k5 NY
              go_wp2
              go_meet
              exact ⟨vI, HX5.out⟩
          case rest =>
            clear HD9 d0 hbn NX
            obtain ⟨vI, hd⟩ := hcut
            obtain ⟨AI, cI, hvI⟩ := own_formk hd.oc.oI
            obtain ⟨ln, hln⟩ : ∃ ln, ln = t.2.length := ⟨_, rfl⟩
            obtain ⟨zm, hzm⟩ : ∃ zm, zm = q.2.length := ⟨_, rfl⟩
            have hE : (Value.slice AE q.2.length cE) = .slice AE zm cE := by rw [hzm]
            rw [← hln] at hvI
            rw [hvI, hE] at hd
            obtain ⟨A4, c4, rs⟩ := hd.rd
            have e1 := rs.c1
            have c0 := hd.oc.c0
            have c1 := hd.oc.c1
            have a0 := hd.tw.c0
            have a1 := hd.tw.c1
            have f0 := hd.tw.f0
            have f1 := hd.tw.f1
            have hB1 := hd.tw.lt
            have hB2 := hd.oc.lt
            have hB3 := cell_ltk e1
            have KW := Lib.hid hd.kw
            have OI := Lib.hid hd.oc.oI
            have OE := Lib.hid hd.oc.oE
            have GI : Hid (∀ g, (Value.slice AI ln cI).ownBlock = some g → B + 2 < g) := Lib.hid hd.oc.bI
            have GE : Hid (∀ g, (Value.slice AE zm cE).ownBlock = some g → B + 2 < g) := Lib.hid hd.oc.bE
            have FIN : Hid (∀ w', Keeps (fun p => B ≤ p) wc w' → Keeps (fun _ => False) w w') := Lib.hid (fun w' k => kback ((KW.out.mono (T := fun p => B ≤ p) (fun _ _ h => h.elim)).trans k (fun _ _ h => h)) HB.out)
            clear hd hvI hE rs hln hzm
            by_cases h0 : s9.e = 0
            · have h9 := HS9.out.1 h0
              have PF : Hid (∀ w', Keeps (fun p => p = B) wc w' → TakeP (t.1, t.2, q.2) w (.returned (.tuple #[.agg #[.slice AI ln cI, .slice AE zm cE], .int .i64 0])) w') := Lib.hid (fun w' k => by
                refine ⟨?_, FIN.out w' (k.mono (fun p _ e => by omega))⟩
                rw [if_pos h9]
                refine ⟨_, _, rfl, ?_, ?_⟩
                · exact ownsRow_keep OI.out fun g hg => k.block g (own_ltk OI.out hg) (fun e => by have := GI.out g hg; omega)
                · exact ownsRow_keep OE.out fun g hg => k.block g (own_ltk OE.out hg) (fun e => by have := GE.out g hg; omega))
              have h0I : (s9.e : Int) = 0 := by omega
              rw [h0I] at e1
              clear h0 h0I h9
              go_wp2
              refine bodyPost_ret (v := .tuple #[.agg #[.slice AI ln cI, .slice AE zm cE], .int .i64 0]) ?_ rfl ?_
              · rw [results_cell_tmp rfl]
                go_simp
              · exact PF.out _ (((Keeps.refl (fun p => p = B) wc).setCell (p := ⟨B, 0, none⟩) (fun _ => rfl) _).setCell (p := ⟨B, 1, none⟩) (fun _ => rfl) _)
            · have h9 := HS9.out.2 h0
              have h0I : ¬ (s9.e : Int) = 0 := by omega
              have h0d : decide ((s9.e : Int) = 0) = false := decide_eq_false h0I
              obtain ⟨ev, hev⟩ : ∃ ev, ev = (s9.e : Int) := ⟨_, rfl⟩
              rw [← hev] at e1 h0I h0d
              have PF : Hid (∀ w', Keeps (fun p => B ≤ p) wc w' → TakeP (t.1, t.2, q.2) w (.returned (.tuple #[.agg #[.slice none 0 0, .slice none 0 0], .int .i64 ev])) w') := Lib.hid (fun w' k => ⟨by rw [if_neg h9.1, hev, h9.2], FIN.out w' k⟩)
              have HEV := Lib.hid hev
              clear hev h0 h9
              go_wp2
              go_region
              go_wp2
              refine bodyPost_ret (v := .tuple #[.agg #[.slice none 0 0, .slice none 0 0], .int .i64 ev]) ?_ rfl ?_
              · rw [results_cell_tmp rfl]
                go_simp
              · exact PF.out _ ((((Keeps.refl (fun p => B ≤ p) wc).setCell (p := ⟨B, 0, none⟩) (fun _ => Nat.le_refl B) _).setCell (p := ⟨B, 1, none⟩) (fun _ => Nat.le_refl B) _)).drew
end Go.Proofs.YtoombjbpblighaaDoor
