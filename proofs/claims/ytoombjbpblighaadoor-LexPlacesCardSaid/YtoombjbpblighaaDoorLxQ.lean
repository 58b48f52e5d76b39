/-
  Layer 1: the walk of LexPlaces. Written by an AI agent.
-/
import Derived.Test.YtoombjbpblighaaDoorLxZ
import Derived.Test.YtoombjbpblighaaDoorLxGw
namespace Go.Proofs.YtoombjbpblighaaDoor
open Go.RowKit Go.Shelf
set_option linter.unusedVariables false
set_option linter.unusedSimpArgs false

theorem pl_at {s : List UInt8} {e : Nat} {t : Tok} {rest : List Tok} (h : Pl s e (t :: rest)) (hr : rest ≠ []) : GoodTok t ∧ t.p + (tokB t).length ≤ s.length ∧ (s.drop t.p).take (tokB t).length = tokB t ∧ Pl s (t.p + (tokB t).length) rest := by
  rcases h.2.2.2 with ⟨h1, _⟩ | ⟨_, h2⟩
  · exact absurd h1 hr
  · exact h2
theorem pl_gap {s : List UInt8} {e : Nat} {t : Tok} {rest : List Tok} (h : Pl s e (t :: rest)) : e ≤ t.p ∧ t.p ≤ s.length ∧ Gap ((s.drop e).take (t.p - e)) := ⟨h.1, h.2.1, h.2.2.1⟩
theorem tok_text {L : List UInt8} {t : Tok} (h2 : (L.drop t.p).take (tokB t).length = tokB t) :
    (t.k = 2 → (L.drop (t.p + 1)).take t.x.length = t.x ∧ (tokB t).length = t.x.length + 2) ∧ (¬ t.k = 2 → (L.drop t.p).take t.x.length = t.x ∧ (tokB t).length = t.x.length) := by
  constructor
  · intro hk
    have hb : tokB t = 34 :: (t.x ++ [34]) := by unfold tokB; rw [if_pos hk]
    have hl : (tokB t).length = t.x.length + 2 := by rw [hb]; simp
    refine ⟨?_, hl⟩
    rw [hl, hb] at h2
    have h3 := congrArg (List.drop 1) h2
    rw [List.drop_take, List.drop_drop] at h3
    have h4 := congrArg (List.take t.x.length) h3
    rw [List.take_take, show min t.x.length (t.x.length + 2 - 1) = t.x.length by omega] at h4
    rw [h4]
    show (t.x ++ [34]).take t.x.length = t.x
    exact List.take_left
  · intro hk
    have hb : tokB t = t.x := by unfold tokB; rw [if_neg hk]
    rw [hb] at h2
    exact ⟨h2, by rw [hb]⟩
theorem ext_mid (s : ByteArray) (a b : Nat) : (s.extract a b).data.toList = (s.data.toList.drop a).take (b - a) := by simp

/-- How a gap goes on. -/
theorem gap_at {G : List UInt8} (h : Gap G) {k : Nat} {c : UInt8} (hk : k ≤ runL (fun d => !decide (d = 47)) G) (hc : G[k]? = some c) :
    (c = 47) ∨ (k + 1 ≤ runL (fun d => !decide (d = 47)) G ∧ blk c = true) := by
  by_cases h47 : c = 47
  · exact .inl h47
  · right
    have hlt : k < runL (fun d => !decide (d = 47)) G := by
      rcases Nat.lt_or_ge k (runL (fun d => !decide (d = 47)) G) with h1 | h1
      · exact h1
      · exfalso
        have e : k = runL (fun d => !decide (d = 47)) G := by omega
        rw [e] at hc
        have := runL_stop _ _ _ hc
        simp at this
        exact h47 this
    refine ⟨hlt, h c ?_⟩
    obtain ⟨h1, h2⟩ := List.getElem?_eq_some_iff.1 hc
    rw [← h2]
    have : (G.take (runL (fun d => !decide (d = 47)) G))[k]? = some G[k] := by rw [List.getElem?_take, if_pos hlt, List.getElem?_eq_getElem h1]
    exact List.mem_of_getElem? this
theorem gap_zero {G : List UInt8} {c : UInt8} (hk : 1 ≤ runL (fun d => !decide (d = 47)) G) (hc : G[0]? = some c) : c ≠ 47 := by
  cases G with
  | nil => cases hc
  | cons d r =>
    have e : d = c := by simpa using hc
    intro h47
    rw [runL_cons_false _ d r (by rw [e, h47]; decide)] at hk
    omega

set_option maxRecDepth 100000 in
set_option maxHeartbeats 8000000 in
theorem places_walk (s0 : ByteArray) (w : World) (he : ErrW w) :
    Calls Tryd.prog 4 #[.string s0] w fun e w' => e = .returned (.bool true) ∧ Keeps (fun _ => False) w w' := by
  have SC := Lib.hid (shown_any w he)
  have HC := Lib.hid (fun w => short_any s0 w)
  have HE := Lib.hid he
  clear he
  go_enter Tryd.func4, Tryd.ntmps4
  go_wp2_with fail
  refine SC.out.mono ?_
  rintro e w1 ⟨rfl, k1⟩
  have HE1 := Lib.hid (HE.out.keep k1)
  have K1 := Lib.hid k1
  have HC1 := Lib.hid (HC.out w1)
  clear k1 SC HE HC
  go_wp2_with fail
  refine HC1.out.mono ?_
  rintro e w2 ⟨⟨s, hs, rfl⟩, hw⟩
  obtain rfl : w1 = w2 := hw.symm
  clear hw HC1
  have hcase : (∃ q er : Nat, er ≠ 0 ∧ q ≤ s.size ∧ Hid (Calls Tryd.prog 17 #[.string s] w1 fun e w' => e = .returned (.tuple #[.slice none 0 0, .int .i64 (q : Int), .int .i64 (er : Int)]) ∧ Keeps (fun _ => False) w1 w')) ∨ (s.size ≤ 600 ∧ (lexL s.data.toList 0).2 = none) := by
    by_cases hb : 600 < s.size
    · exact .inl ⟨0, 4, by decide, by omega, Lib.hid (all_big s hb (by omega) w1 HE1.out)⟩
    · cases hl : (lexL s.data.toList 0).2 with
      | none => exact .inr ⟨by omega, rfl⟩
      | some qe =>
        obtain ⟨q, er⟩ := qe
        have hc := lexL_cut s.data.toList 0 q er hl
        have hc1 := hc.2.1
        rw [len_size] at hc1
        exact .inl ⟨q, er, by omega, by omega, Lib.hid (all_bad s (by omega) q er hl w1 HE1.out)⟩
  rcases hcase with ⟨q, er, her, hqs, AC⟩ | ⟨hs6, hl2⟩
  · have her0 : ((er : Int) == 0) = false := by simp; omega
    have hq0 : (0 : Int) ≤ (q : Int) := by omega
    have hqI : (q : Int) ≤ (s.size : Int) := by omega
    have hq0d : decide ((0 : Int) ≤ (q : Int)) = true := decide_eq_true hq0
    have hqId : decide ((q : Int) ≤ (s.size : Int)) = true := decide_eq_true hqI
    go_wp2_with fail
    refine AC.out.mono ?_
    rintro e w3 ⟨rfl, k3⟩
    have K3 := Lib.hid (K1.out.trans k3 (fun _ _ h => h))
    clear k3 AC
    go_wp2
    go_ret
    exact ⟨rfl, K3.out⟩
  · obtain ⟨L, hL⟩ : ∃ L, L = s.data.toList := ⟨_, rfl⟩
    have hLs : L.length = s.size := by rw [hL, len_size]
    obtain ⟨ini, hini, hgood⟩ := lexL_good s.data.toList 0 hl2
    have hpl := lexL_places L L 0 0 (by rw [List.drop_zero]) (Nat.zero_le _) (Nat.le_refl _) (by rw [Nat.sub_self, List.take_zero]; exact gap_nil) (by rw [hL]; exact hl2)
    obtain ⟨ts, hts⟩ : ∃ ts, ts = (lexL s.data.toList 0).1 := ⟨_, rfl⟩
    have hlx : lexL s.data.toList 0 = (ts, none) := by rw [hts, ← hl2]
    rw [hL, ← hts, ← hL] at hpl
    rw [← hts] at hini
    obtain ⟨N, hNi⟩ : ∃ N, N = ini.length := ⟨_, rfl⟩
    have hN1 : ts.length = N + 1 := by rw [hini, List.length_append, hNi]; rfl
    have hN : ts.length ≤ 601 := by
      have := tokens_le s.data.toList 0
      rw [← hts, len_size] at this
      omega
    have hlast : ts.getD N default = ⟨0, [], s.size⟩ := by
      rw [hini]
      show (ini ++ _)[N]?.getD default = _
      rw [List.getElem?_append_right (by omega), hNi, Nat.sub_self, Nat.zero_add, len_size]
      rfl
    have hdrop : ∀ i, i < N + 1 → ts.drop i = ts.getD i default :: ts.drop (i + 1) := fun i hi => by
      rw [List.drop_eq_getElem_cons (by omega)]
      congr 1
      simp [List.getD, show i < ts.length by omega]
    have AC := Lib.hid (all_ok s hs6 ts hlx w1 HE1.out)
    have HP := Lib.hid hpl
    have HD := Lib.hid hdrop
    have HLA := Lib.hid hlast
    have N1 := Lib.hid hN1
    have HL := Lib.hid hL
    have HLS := Lib.hid hLs
    rw [hN1] at AC hN
    clear hini hgood hts hlx hNi hN1 hpl hlast hdrop hL hLs hl2
    go_wp2_with fail
    refine AC.out.mono ?_
    rintro e w3 ⟨A, c, rfl, hr, k3⟩
    have K3 := Lib.hid (K1.out.trans k3 (fun _ _ h => h))
    have HR3 := Lib.hid hr
    have HE3 := Lib.hid (HE1.out.keep k3)
    clear k3 AC hr
    obtain ⟨bl, ol, rfl, hla⟩ := HR3.out.cellsAt (i := N) (by rw [N1.out]; omega)
    rw [HLA.out] at hla
    have z0 : w3.cell? ⟨bl, ol + N * 3, none⟩ = some (.int .i64 0) := (hla w3 (Keeps.refl _ _)).1
    have z1 : w3.cell? ⟨bl, ol + N * 3 + 1, none⟩ = some (.string { data := #[] }) := (hla w3 (Keeps.refl _ _)).2.1
    have z2 : w3.cell? ⟨bl, ol + N * 3 + 2, none⟩ = some (.int .i64 (s.size : Int)) := (hla w3 (Keeps.refl _ _)).2.2
    have sw : IntKind.i64.wrap (((N + 1 : Nat) : Int) - 1) = (N : Int) := by rw [IntWalk.i64_in _ (by omega)]; omega
    have hNI : (N : Int) < ((N + 1 : Nat) : Int) := by omega
    have hn0 : ((N : Int) + 1 == 0) = false := by simp; omega
    have g33 := guard33
    have qn : ∀ w : World, (binOp .neq 33 (.agg #[.int .i64 0, .string { data := #[] }, .int .i64 (s.size : Int)]) (.agg #[.int .i64 0, .string { data := #[] }, .int .i64 (s.size : Int)])).run Tryd.prog w = .ok (.bool false) w := fun w => by rw [neq33]; simp
    clear hla
    go_wp2_with fail
    clear z0 z1 z2 qn g33 hn0
    go_loopw [7, 8] (fun s7 s8 wr => ∃ (i e : Nat), i ≤ N ∧ s7 = .int .i64 e ∧ s8 = .int .i64 i ∧ Pl L e (ts.drop i) ∧ Keeps (fun _ => False) w3 wr) (fun _ s8 _ => N + 1 - (intOf s8).toNat)
    case atStart => exact ⟨0, 0, by omega, rfl, rfl, HP.out, Keeps.refl _ _⟩
    case round =>
      obtain ⟨i, e, hi, rfl, rfl, hp, kr⟩ := hrel
      by_cases hiN : i < N
      · have hI : (i : Int) < (N : Int) := by omega
        have hdI : decide ((i : Int) < (N : Int)) = true := decide_eq_true hI
        have hI1 : (i : Int) < ((N + 1 : Nat) : Int) := by omega
        have hI2 : (i : Int) + 1 < ((N + 1 : Nat) : Int) := by omega
        have hi0 : (0 : Int) ≤ (i : Int) := by omega
        have hi1 : (0 : Int) ≤ (i : Int) + 1 := by omega
        obtain ⟨b', o', hbo, ha⟩ := HR3.out.cellsAt (i := i) (by rw [N1.out]; omega)
        cases hbo
        obtain ⟨b', o', hbo, hb⟩ := HR3.out.cellsAt (i := i + 1) (by rw [N1.out]; omega)
        cases hbo
        have hd1 := HD.out i (by omega)
        have hd2 := HD.out (i + 1) (by omega)
        obtain ⟨t, ht⟩ : ∃ t : Tok, t = ts.getD i default := ⟨_, rfl⟩
        obtain ⟨u, hu⟩ : ∃ t : Tok, t = ts.getD (i + 1) default := ⟨_, rfl⟩
        rw [← ht] at ha hd1
        rw [← hu] at hb hd2
        rw [hd1] at hp
        have hep := (pl_gap hp).1
        obtain ⟨hg, hb1, hb2, hp2⟩ := pl_at hp (by rw [hd2]; simp)
        obtain ⟨tx2, tx1⟩ := tok_text hb2
        have hp3 := hp2
        rw [hd2] at hp3
        obtain ⟨hq1, hq2, hgap⟩ := pl_gap hp3
        rw [HLS.out] at hb1 hq2
        obtain ⟨m, hm⟩ : ∃ m, m = (tokB t).length := ⟨_, rfl⟩
        rw [← hm] at hb1 tx2 tx1 hp2 hq1 hgap
        have HPN := Lib.hid hp2
        have HGP := Lib.hid hgap
        have hkind := hg.kind
        have hword := hg.word
        obtain ⟨tk, tx, tp⟩ := t
        obtain ⟨uk, ux, q⟩ := u
        have a0 : wr.cell? ⟨bl, ol + i * 3, none⟩ = some (.int .i64 (tk : Int)) := (ha wr kr).1
        have a1 : wr.cell? ⟨bl, ol + i * 3 + 1, none⟩ = some (.string (ofL tx)) := (ha wr kr).2.1
        have a2 : wr.cell? ⟨bl, ol + i * 3 + 2, none⟩ = some (.int .i64 (tp : Int)) := (ha wr kr).2.2
        have b2 : wr.cell? ⟨bl, ol + (i + 1) * 3 + 2, none⟩ = some (.int .i64 (q : Int)) := (hb wr kr).2.2
        have hbl := cell_ltk a0
        obtain ⟨T, hT⟩ : ∃ T : ByteArray, T = ofL tx := ⟨_, rfl⟩
        have hTl : T.data.toList = tx := by rw [hT]; exact ofL_list tx
        rw [← hT] at a1
        have KR := Lib.hid kr
        have HA := Lib.hid ha
        have HB := Lib.hid hb
        have HTL := Lib.hid hTl
        dsimp only at hb1 tx2 tx1 hep hq1 hq2 hkind hword
        have HT2 := Lib.hid tx2
        have HT1 := Lib.hid tx1
        have HW := Lib.hid hword
        have HK := Lib.hid hkind
        clear kr ha hb hp hp2 hp3 hg hb2 hm ht hu hd1 hd2 hgap hT hTl tx2 tx1 hword hkind
        by_cases h2 : tk = 2
        · subst h2
          obtain ⟨xe, xm⟩ := HT2.out rfl
          have q2 : ((2 : Int) == 2) = true := rfl
          have hn : T.size = tx.length := by rw [← len_size, HTL.out]
          rw [← hn] at xe xm
          have hX : s.extract (tp + 1) (tp + 1 + T.size) = T := bytes_ext (by rw [ext_mid, ← HL.out, show tp + 1 + T.size - (tp + 1) = T.size by omega, xe, HTL.out])
          have HX := Lib.hid hX
          clear hX xe hn
          go_wp2_with fail
          generalize hwA : wr.alloc _ = wA
          have kA : Keeps (fun _ => False) wr wA := by rw [← hwA]; exact (Keeps.refl _ _).alloc _
          have c0 : wA.cell? ⟨wr.heap.size, 0, none⟩ = some (.int .i64 2) := by rw [← hwA]; simp
          have c1 : wA.cell? ⟨wr.heap.size, 1, none⟩ = some (.string T) := by rw [← hwA]; simp
          have c2 : wA.cell? ⟨wr.heap.size, 2, none⟩ = some (.int .i64 (tp : Int)) := by rw [← hwA]; simp
          obtain ⟨pn, hpn⟩ : ∃ pn, pn = wr.heap.size := ⟨_, rfl⟩
          rw [← hpn] at c0 c1 c2 ⊢
          have KA := Lib.hid kA
          clear kA hwA hpn
          have hz := wordq_any T
          rw [HTL.out] at hz
          obtain ⟨b, hb⟩ : ∃ b, b = isWord tx := ⟨_, rfl⟩
          rw [← hb] at hz
          have WC := Lib.hid hz
          clear hz
          have r0 : ¬ (tp : Int) < (e : Int) := by omega
          have r0d : decide ((tp : Int) < (e : Int)) = false := decide_eq_false r0
          have sw1 : IntKind.i64.wrap (((tp : Int) + 1) + (T.size : Int)) = ((tp : Int) + 1) + (T.size : Int) := IntWalk.i64_in _ (by omega)
          have r1 : ¬ (s.size : Int) < ((tp : Int) + 1) + (T.size : Int) := by omega
          have r1d : decide ((s.size : Int) < ((tp : Int) + 1) + (T.size : Int)) = false := decide_eq_false r1
          have r2 : (0 : Int) ≤ ((tp : Int) + 1) := by omega
          have r3 : ((tp : Int) + 1) ≤ ((tp : Int) + 1) + (T.size : Int) := by omega
          have r4 : ((tp : Int) + 1) + (T.size : Int) ≤ (s.size : Int) := by omega
          have r5 : (((tp : Int) + 1) + (T.size : Int)).toNat = tp + 1 + T.size := by omega
          have r6 : ((tp : Int) + 1).toNat = tp + 1 := by omega
          have qX : ((s.extract (tp + 1) (tp + 1 + T.size)).toList == T.toList) = true := by rw [HX.out]; simp
          have HBW := Lib.hid hb
          clear hb
          go_cut [119] from 57 to 170 (fun s119 wx => s119 = .bool false ∧ ∃ n, wx = wA.drewN n)
          case first =>
            cases b with
            | true =>
              go_quiet ((go_at_call 22; exact Calls.quiet_of_same (WC.out _)))
              go_wp2
              go_meet
              exact ⟨rfl, _, rfl⟩
            | false =>
              go_quiet ((go_at_call 22; exact Calls.quiet_of_same (WC.out _)))
              go_wp2
              go_meet
              exact ⟨rfl, _, rfl⟩
          case rest =>
            obtain ⟨rfl, nq, hw⟩ := hcut
            have kB : Keeps (fun _ => False) wr wc := KA.out.trans (by rw [hw]; exact drew_keeps wA nq) (fun _ _ h => h)
            have c0 : wc.cell? ⟨pn, 0, none⟩ = some (.int .i64 2) := by rw [hw]; simpa using c0
            have kC : Keeps (fun _ => False) w3 wc := KR.out.trans kB (fun _ _ h => h)
            have b2 : wc.cell? ⟨bl, ol + (i + 1) * 3 + 2, none⟩ = some (.int .i64 (q : Int)) := (HB.out wc kC).2.2
            have KC := Lib.hid kC
            clear hw kB kC sw1 r0 r0d r1 r1d r2 r3 r4 r5 qX WC
            obtain ⟨en, hen⟩ : ∃ en, en = tp + m := ⟨_, rfl⟩
            have HPN2 : Hid (Pl L en (ts.drop (i + 1))) := by rw [hen]; exact HPN
            have HG : Hid (Gap (s.extract en q).data.toList) := by rw [ext_mid, ← HL.out, hen]; exact HGP
            have henq : en ≤ q := by omega
            have henqI : (en : Int) ≤ (q : Int) := by omega
            have hen0 : (0 : Int) ≤ (en : Int) := by omega
            have hqI : (q : Int) ≤ (s.size : Int) := by omega
            obtain ⟨en1, hen1⟩ : ∃ en1, en1 = tp + 1 + T.size := ⟨_, rfl⟩
            have sw3 : IntKind.i64.wrap ((tp : Int) + 1 + (T.size : Int)) = (en1 : Int) := by rw [IntWalk.i64_in _ (by omega)]; omega
            have sw4 : IntKind.i64.wrap ((en1 : Int) + 1) = (en : Int) := by rw [IntWalk.i64_in _ (by omega)]; omega
            have sw5 : (en1 : Int) + 1 = (en : Int) := by omega
            have HEN := Lib.hid hen1
            clear hen1
            have HEN2 := Lib.hid hen
            clear hen
            go_wp2_with fail
            generalize hgp : s.extract en q = gp
            rw [hgp] at HG
            have hgs : gp.size ≤ 600 := by rw [← len_size, ← hgp, ext_mid, List.length_take]; omega
            clear hgp
            go_loopw [13] (fun s13 wx => ∃ (k : Nat), k ≤ gp.size ∧ s13 = .int .i64 k ∧ k ≤ runL (fun d => !decide (d = 47)) gp.data.toList ∧ wx = wc) (fun s13 _ => gp.size + 1 - (intOf s13).toNat)
            case atStart => exact ⟨0, by omega, rfl, by omega, rfl⟩
            case round =>
              obtain ⟨k, hk, rfl, hkR, hw⟩ := hrel
              obtain rfl : wc = _ := hw.symm
              clear hw
              by_cases hks : k < gp.size
              · have hkI : (k : Int) < (gp.size : Int) := by omega
                have hk0 : (0 : Int) ≤ (k : Int) := by omega
                have hkd : decide ((k : Int) < (gp.size : Int)) = true := decide_eq_true hkI
                have hc := at_byte gp k hks
                by_cases h0 : k = 0
                · subst h0
                  rcases gap_at HG.out hkR hc with h47 | ⟨hk1, hbk⟩
                  · have n47 : ((gp[0].toNat : Int) == 47) = true := by rw [h47]; rfl
                    have N47 := Lib.hid h47
                    clear h47 hc
                    go_wp2
                    go_roundw
                    case rel => exact ⟨i + 1, en, by omega, by first | rfl | go_num, by go_num, HPN2.out, KC.out⟩
                    case measure => simp [intOf]; omega
                  · have hn : gp[0].toNat = 32 ∨ gp[0].toNat = 9 ∨ gp[0].toNat = 13 ∨ gp[0].toNat = 10 := by
                      unfold blk at hbk
                      simp only [Bool.or_eq_true, decide_eq_true_eq] at hbk
                      omega
                    have n47 : ((gp[0].toNat : Int) == 47) = false := by simp; omega
                    clear hc hbk
                    rcases hn with hn | hn | hn | hn
                    · have n32 : ((gp[0].toNat : Int) != 32) = false := by simp; omega
                      have N := Lib.hid hn
                      clear hn
                      go_wp2
                      go_roundw
                      case rel => exact ⟨0 + 1, by omega, by go_num, hk1, by first | rfl | trivial⟩
                      case measure => first | (simp [intOf]; done) | (simp [intOf]; omega)
                    · have n32 : ((gp[0].toNat : Int) != 32) = true := by simp; omega
                      have n9 : ((gp[0].toNat : Int) != 9) = false := by simp; omega
                      have N := Lib.hid hn
                      clear hn
                      go_wp2
                      go_roundw
                      case rel => exact ⟨0 + 1, by omega, by go_num, hk1, by first | rfl | trivial⟩
                      case measure => first | (simp [intOf]; done) | (simp [intOf]; omega)
                    · have n32 : ((gp[0].toNat : Int) != 32) = true := by simp; omega
                      have n9 : ((gp[0].toNat : Int) != 9) = true := by simp; omega
                      have n13 : ((gp[0].toNat : Int) != 13) = false := by simp; omega
                      have N := Lib.hid hn
                      clear hn
                      go_wp2
                      go_roundw
                      case rel => exact ⟨0 + 1, by omega, by go_num, hk1, by first | rfl | trivial⟩
                      case measure => first | (simp [intOf]; done) | (simp [intOf]; omega)
                    · have n32 : ((gp[0].toNat : Int) != 32) = true := by simp; omega
                      have n9 : ((gp[0].toNat : Int) != 9) = true := by simp; omega
                      have n13 : ((gp[0].toNat : Int) != 13) = true := by simp; omega
                      have n10 : ((gp[0].toNat : Int) != 10) = false := by simp; omega
                      have N := Lib.hid hn
                      clear hn
                      go_wp2
                      go_roundw
                      case rel => exact ⟨0 + 1, by omega, by go_num, hk1, by first | rfl | trivial⟩
                      case measure => first | (simp [intOf]; done) | (simp [intOf]; omega)
                · have kz : ((k : Int) == 0) = false := by simp; omega
                  have hg0 : 0 < gp.size := by omega
                  have hg0I : (0 : Int) < (gp.size : Int) := by omega
                  have g47 : ((gp[0].toNat : Int) != 47) = true := by
                    have h3 := gap_zero (c := gp[0]) (by omega) (at_byte gp 0 hg0)
                    simp only [bne_iff_ne, ne_eq]
                    intro h4
                    exact h3 (UInt8.toNat_inj.1 (by rw [show gp[0].toNat = 47 by omega]; rfl))
                  rcases gap_at HG.out hkR hc with h47 | ⟨hk1, hbk⟩
                  · have n47 : ((gp[k].toNat : Int) == 47) = true := by rw [h47]; rfl
                    have N47 := Lib.hid h47
                    clear h47 hc
                    go_wp2
                    go_roundw
                    case rel => exact ⟨i + 1, en, by omega, by first | rfl | go_num, by go_num, HPN2.out, KC.out⟩
                    case measure => simp [intOf]; omega
                  · have hn : gp[k].toNat = 32 ∨ gp[k].toNat = 9 ∨ gp[k].toNat = 13 ∨ gp[k].toNat = 10 := by
                      unfold blk at hbk
                      simp only [Bool.or_eq_true, decide_eq_true_eq] at hbk
                      omega
                    have n47 : ((gp[k].toNat : Int) == 47) = false := by simp; omega
                    clear hc hbk
                    rcases hn with hn | hn | hn | hn
                    · have n32 : ((gp[k].toNat : Int) != 32) = false := by simp; omega
                      have N := Lib.hid hn
                      clear hn
                      go_wp2
                      go_roundw
                      case rel => exact ⟨k + 1, by omega, by go_num, hk1, by first | rfl | trivial⟩
                      case measure => first | (simp [intOf]; done) | (simp [intOf]; omega)
                    · have n32 : ((gp[k].toNat : Int) != 32) = true := by simp; omega
                      have n9 : ((gp[k].toNat : Int) != 9) = false := by simp; omega
                      have N := Lib.hid hn
                      clear hn
                      go_wp2
                      go_roundw
                      case rel => exact ⟨k + 1, by omega, by go_num, hk1, by first | rfl | trivial⟩
                      case measure => first | (simp [intOf]; done) | (simp [intOf]; omega)
                    · have n32 : ((gp[k].toNat : Int) != 32) = true := by simp; omega
                      have n9 : ((gp[k].toNat : Int) != 9) = true := by simp; omega
                      have n13 : ((gp[k].toNat : Int) != 13) = false := by simp; omega
                      have N := Lib.hid hn
                      clear hn
                      go_wp2
                      go_roundw
                      case rel => exact ⟨k + 1, by omega, by go_num, hk1, by first | rfl | trivial⟩
                      case measure => first | (simp [intOf]; done) | (simp [intOf]; omega)
                    · have n32 : ((gp[k].toNat : Int) != 32) = true := by simp; omega
                      have n9 : ((gp[k].toNat : Int) != 9) = true := by simp; omega
                      have n13 : ((gp[k].toNat : Int) != 13) = true := by simp; omega
                      have n10 : ((gp[k].toNat : Int) != 10) = false := by simp; omega
                      have N := Lib.hid hn
                      clear hn
                      go_wp2
                      go_roundw
                      case rel => exact ⟨k + 1, by omega, by go_num, hk1, by first | rfl | trivial⟩
                      case measure => first | (simp [intOf]; done) | (simp [intOf]; omega)
              · have hkd : decide ((k : Int) < (gp.size : Int)) = false := decide_eq_false (by omega)
                go_wp2
                go_roundw
                case rel => exact ⟨i + 1, en, by omega, by first | rfl | go_num, by go_num, HPN2.out, KC.out⟩
                case measure => simp [intOf]; omega
        · obtain ⟨xe, xm⟩ := HT1.out h2
          have q2 : ((tk : Int) == 2) = false := by simp; omega
          have hn : T.size = tx.length := by rw [← len_size, HTL.out]
          rw [← hn] at xe xm
          have hX : s.extract (tp) (tp + T.size) = T := bytes_ext (by rw [ext_mid, ← HL.out, show tp + T.size - (tp) = T.size by omega, xe, HTL.out])
          have HX := Lib.hid hX
          clear hX xe hn
          go_wp2_with fail
          generalize hwA : wr.alloc _ = wA
          have kA : Keeps (fun _ => False) wr wA := by rw [← hwA]; exact (Keeps.refl _ _).alloc _
          have c0 : wA.cell? ⟨wr.heap.size, 0, none⟩ = some (.int .i64 (tk : Int)) := by rw [← hwA]; simp
          have c1 : wA.cell? ⟨wr.heap.size, 1, none⟩ = some (.string T) := by rw [← hwA]; simp
          have c2 : wA.cell? ⟨wr.heap.size, 2, none⟩ = some (.int .i64 (tp : Int)) := by rw [← hwA]; simp
          obtain ⟨pn, hpn⟩ : ∃ pn, pn = wr.heap.size := ⟨_, rfl⟩
          rw [← hpn] at c0 c1 c2 ⊢
          have KA := Lib.hid kA
          clear kA hwA hpn
          have hz := wordq_any T
          rw [HTL.out] at hz
          obtain ⟨b, hb⟩ : ∃ b, b = isWord tx := ⟨_, rfl⟩
          rw [← hb] at hz
          have WC := Lib.hid hz
          clear hz
          have r0 : ¬ (tp : Int) < (e : Int) := by omega
          have r0d : decide ((tp : Int) < (e : Int)) = false := decide_eq_false r0
          have sw1 : IntKind.i64.wrap ((tp : Int) + (T.size : Int)) = (tp : Int) + (T.size : Int) := IntWalk.i64_in _ (by omega)
          have r1 : ¬ (s.size : Int) < (tp : Int) + (T.size : Int) := by omega
          have r1d : decide ((s.size : Int) < (tp : Int) + (T.size : Int)) = false := decide_eq_false r1
          have r2 : (0 : Int) ≤ (tp : Int) := by omega
          have r3 : (tp : Int) ≤ (tp : Int) + (T.size : Int) := by omega
          have r4 : (tp : Int) + (T.size : Int) ≤ (s.size : Int) := by omega
          have r5 : ((tp : Int) + (T.size : Int)).toNat = tp + T.size := by omega
          skip
          have qX : ((s.extract (tp) (tp + T.size)).toList == T.toList) = true := by rw [HX.out]; simp
          have kz : ((tk : Int) == 0) = false := by have := HK.out; simp; omega
          have hq4 : ((tk : Int) == 4) = b := by
              have hw := HW.out.resolve_left h2
              rw [← hb] at hw
              rw [Bool.eq_iff_iff]
              simp only [beq_iff_eq]
              rw [← hw]
              omega
          have hbb : (b != b) = false := by simp
          have HBW := Lib.hid hb
          clear hb
          go_cut [119] from 57 to 170 (fun s119 wx => s119 = .bool false ∧ ∃ n, wx = wA.drewN n)
          case first =>
            go_quiet ((go_at_call 22; exact Calls.quiet_of_same (WC.out _)))
            go_wp2
            go_meet
            exact ⟨rfl, _, rfl⟩
          case rest =>
            obtain ⟨rfl, nq, hw⟩ := hcut
            have kB : Keeps (fun _ => False) wr wc := KA.out.trans (by rw [hw]; exact drew_keeps wA nq) (fun _ _ h => h)
            have c0 : wc.cell? ⟨pn, 0, none⟩ = some (.int .i64 (tk : Int)) := by rw [hw]; simpa using c0
            have kC : Keeps (fun _ => False) w3 wc := KR.out.trans kB (fun _ _ h => h)
            have b2 : wc.cell? ⟨bl, ol + (i + 1) * 3 + 2, none⟩ = some (.int .i64 (q : Int)) := (HB.out wc kC).2.2
            have KC := Lib.hid kC
            clear hw kB kC sw1 r0 r0d r1 r1d r2 r3 r4 r5 qX WC
            obtain ⟨en, hen⟩ : ∃ en, en = tp + m := ⟨_, rfl⟩
            have HPN2 : Hid (Pl L en (ts.drop (i + 1))) := by rw [hen]; exact HPN
            have HG : Hid (Gap (s.extract en q).data.toList) := by rw [ext_mid, ← HL.out, hen]; exact HGP
            have henq : en ≤ q := by omega
            have henqI : (en : Int) ≤ (q : Int) := by omega
            have hen0 : (0 : Int) ≤ (en : Int) := by omega
            have hqI : (q : Int) ≤ (s.size : Int) := by omega
            have sw3 : IntKind.i64.wrap ((tp : Int) + (T.size : Int)) = (en : Int) := by rw [IntWalk.i64_in _ (by omega)]; omega
            have HEN2 := Lib.hid hen
            clear hen
            go_wp2_with fail
            generalize hgp : s.extract en q = gp
            rw [hgp] at HG
            have hgs : gp.size ≤ 600 := by rw [← len_size, ← hgp, ext_mid, List.length_take]; omega
            clear hgp
            go_loopw [13] (fun s13 wx => ∃ (k : Nat), k ≤ gp.size ∧ s13 = .int .i64 k ∧ k ≤ runL (fun d => !decide (d = 47)) gp.data.toList ∧ wx = wc) (fun s13 _ => gp.size + 1 - (intOf s13).toNat)
            case atStart => exact ⟨0, by omega, rfl, by omega, rfl⟩
            case round =>
              obtain ⟨k, hk, rfl, hkR, hw⟩ := hrel
              obtain rfl : wc = _ := hw.symm
              clear hw
              by_cases hks : k < gp.size
              · have hkI : (k : Int) < (gp.size : Int) := by omega
                have hk0 : (0 : Int) ≤ (k : Int) := by omega
                have hkd : decide ((k : Int) < (gp.size : Int)) = true := decide_eq_true hkI
                have hc := at_byte gp k hks
                by_cases h0 : k = 0
                · subst h0
                  rcases gap_at HG.out hkR hc with h47 | ⟨hk1, hbk⟩
                  · have n47 : ((gp[0].toNat : Int) == 47) = true := by rw [h47]; rfl
                    have N47 := Lib.hid h47
                    clear h47 hc
                    go_wp2
                    go_roundw
                    case rel => exact ⟨i + 1, en, by omega, by first | rfl | go_num, by go_num, HPN2.out, KC.out⟩
                    case measure => simp [intOf]; omega
                  · have hn : gp[0].toNat = 32 ∨ gp[0].toNat = 9 ∨ gp[0].toNat = 13 ∨ gp[0].toNat = 10 := by
                      unfold blk at hbk
                      simp only [Bool.or_eq_true, decide_eq_true_eq] at hbk
                      omega
                    have n47 : ((gp[0].toNat : Int) == 47) = false := by simp; omega
                    clear hc hbk
                    rcases hn with hn | hn | hn | hn
                    · have n32 : ((gp[0].toNat : Int) != 32) = false := by simp; omega
                      have N := Lib.hid hn
                      clear hn
                      go_wp2
                      go_roundw
                      case rel => exact ⟨0 + 1, by omega, by go_num, hk1, by first | rfl | trivial⟩
                      case measure => first | (simp [intOf]; done) | (simp [intOf]; omega)
                    · have n32 : ((gp[0].toNat : Int) != 32) = true := by simp; omega
                      have n9 : ((gp[0].toNat : Int) != 9) = false := by simp; omega
                      have N := Lib.hid hn
                      clear hn
                      go_wp2
                      go_roundw
                      case rel => exact ⟨0 + 1, by omega, by go_num, hk1, by first | rfl | trivial⟩
                      case measure => first | (simp [intOf]; done) | (simp [intOf]; omega)
                    · have n32 : ((gp[0].toNat : Int) != 32) = true := by simp; omega
                      have n9 : ((gp[0].toNat : Int) != 9) = true := by simp; omega
                      have n13 : ((gp[0].toNat : Int) != 13) = false := by simp; omega
                      have N := Lib.hid hn
                      clear hn
                      go_wp2
                      go_roundw
                      case rel => exact ⟨0 + 1, by omega, by go_num, hk1, by first | rfl | trivial⟩
                      case measure => first | (simp [intOf]; done) | (simp [intOf]; omega)
                    · have n32 : ((gp[0].toNat : Int) != 32) = true := by simp; omega
                      have n9 : ((gp[0].toNat : Int) != 9) = true := by simp; omega
                      have n13 : ((gp[0].toNat : Int) != 13) = true := by simp; omega
                      have n10 : ((gp[0].toNat : Int) != 10) = false := by simp; omega
                      have N := Lib.hid hn
                      clear hn
                      go_wp2
                      go_roundw
                      case rel => exact ⟨0 + 1, by omega, by go_num, hk1, by first | rfl | trivial⟩
                      case measure => first | (simp [intOf]; done) | (simp [intOf]; omega)
                · have kz : ((k : Int) == 0) = false := by simp; omega
                  have hg0 : 0 < gp.size := by omega
                  have hg0I : (0 : Int) < (gp.size : Int) := by omega
                  have g47 : ((gp[0].toNat : Int) != 47) = true := by
                    have h3 := gap_zero (c := gp[0]) (by omega) (at_byte gp 0 hg0)
                    simp only [bne_iff_ne, ne_eq]
                    intro h4
                    exact h3 (UInt8.toNat_inj.1 (by rw [show gp[0].toNat = 47 by omega]; rfl))
                  rcases gap_at HG.out hkR hc with h47 | ⟨hk1, hbk⟩
                  · have n47 : ((gp[k].toNat : Int) == 47) = true := by rw [h47]; rfl
                    have N47 := Lib.hid h47
                    clear h47 hc
                    go_wp2
                    go_roundw
                    case rel => exact ⟨i + 1, en, by omega, by first | rfl | go_num, by go_num, HPN2.out, KC.out⟩
                    case measure => simp [intOf]; omega
                  · have hn : gp[k].toNat = 32 ∨ gp[k].toNat = 9 ∨ gp[k].toNat = 13 ∨ gp[k].toNat = 10 := by
                      unfold blk at hbk
                      simp only [Bool.or_eq_true, decide_eq_true_eq] at hbk
                      omega
                    have n47 : ((gp[k].toNat : Int) == 47) = false := by simp; omega
                    clear hc hbk
                    rcases hn with hn | hn | hn | hn
                    · have n32 : ((gp[k].toNat : Int) != 32) = false := by simp; omega
                      have N := Lib.hid hn
                      clear hn
                      go_wp2
                      go_roundw
                      case rel => exact ⟨k + 1, by omega, by go_num, hk1, by first | rfl | trivial⟩
                      case measure => first | (simp [intOf]; done) | (simp [intOf]; omega)
                    · have n32 : ((gp[k].toNat : Int) != 32) = true := by simp; omega
                      have n9 : ((gp[k].toNat : Int) != 9) = false := by simp; omega
                      have N := Lib.hid hn
                      clear hn
                      go_wp2
                      go_roundw
                      case rel => exact ⟨k + 1, by omega, by go_num, hk1, by first | rfl | trivial⟩
                      case measure => first | (simp [intOf]; done) | (simp [intOf]; omega)
                    · have n32 : ((gp[k].toNat : Int) != 32) = true := by simp; omega
                      have n9 : ((gp[k].toNat : Int) != 9) = true := by simp; omega
                      have n13 : ((gp[k].toNat : Int) != 13) = false := by simp; omega
                      have N := Lib.hid hn
                      clear hn
                      go_wp2
                      go_roundw
                      case rel => exact ⟨k + 1, by omega, by go_num, hk1, by first | rfl | trivial⟩
                      case measure => first | (simp [intOf]; done) | (simp [intOf]; omega)
                    · have n32 : ((gp[k].toNat : Int) != 32) = true := by simp; omega
                      have n9 : ((gp[k].toNat : Int) != 9) = true := by simp; omega
                      have n13 : ((gp[k].toNat : Int) != 13) = true := by simp; omega
                      have n10 : ((gp[k].toNat : Int) != 10) = false := by simp; omega
                      have N := Lib.hid hn
                      clear hn
                      go_wp2
                      go_roundw
                      case rel => exact ⟨k + 1, by omega, by go_num, hk1, by first | rfl | trivial⟩
                      case measure => first | (simp [intOf]; done) | (simp [intOf]; omega)
              · have hkd : decide ((k : Int) < (gp.size : Int)) = false := decide_eq_false (by omega)
                go_wp2
                go_roundw
                case rel => exact ⟨i + 1, en, by omega, by first | rfl | go_num, by go_num, HPN2.out, KC.out⟩
                case measure => simp [intOf]; omega
      · have hdI : decide ((i : Int) < (N : Int)) = false := decide_eq_false (by omega)
        have K6 := Lib.hid (K3.out.trans kr (fun _ _ h => h))
        clear kr hp
        go_wp2
        go_ret
        exact ⟨rfl, K6.out⟩

end Go.Proofs.YtoombjbpblighaaDoor
