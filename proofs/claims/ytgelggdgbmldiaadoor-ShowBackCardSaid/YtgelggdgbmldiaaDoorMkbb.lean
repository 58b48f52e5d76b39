/-
  Layer 2: the document's reader: call. Written by an AI agent.
  Layer 2: the document's reader: right, named. Written by an AI agent.
-/
import Derived.Test.YtgelggdgbmldiaaDoorMkba
namespace Go.Proofs.YtgelggdgbmldiaaDoor
open Go Go.RowKit Go.Shelf
set_option linter.unusedVariables false
set_option linter.unusedSimpArgs false
set_option maxRecDepth 100000 in
set_option maxHeartbeats 16000000 in
theorem rcall_any {P : Nat} {src : ByteArray} {T : List Tok} {N : Nat} {ex : PM Int} (hsz : src.size ≤ 1000) (hN : N ≤ 100000) (EX : RexC P src T 119 ex) : RexC P src T 133 (rcallM src.data.toList T N ex) := by
  intro s r s' R w h hp
  obtain ⟨i0, hi0, hz0, hz1, hz2⟩ := info_parts info_int
  have HP0 := Lib.hid hp
  have HF0 := Lib.hid (Fr.refl R w)
  have HLO := Lib.hid hp.lo
  have HM := Lib.hid h
  clear h hp
  go_enter Tryd.func133, Tryd.ntmps133
  obtain ⟨ln, hln, h⟩ := ask_out HM.out
  have LC := Lib.hid (rline_q hsz HP0.out hln)
  replace HM := Lib.hid h
  clear h hln
  go_wp2_with fail
  refine LC.out.mono ?_
  rintro e w1 ⟨rfl, k1⟩
  have HP1 := Lib.hid (HP0.out.keep k1)
  have HF1 := Lib.hid (HF0.out.keeps k1)
  clear HP0 HF0 LC k1 
  obtain ⟨x, ex, h⟩ := ask_out HM.out
  obtain ⟨s2, e1, h⟩ := mod_out h
  have NC := Lib.hid (rname_q HP1.out e1 ex)
  replace HM := Lib.hid h
  clear h e1 ex
  go_wp2_with fail
  refine NC.out.mono ?_
  rintro e w3 ⟨rfl, R4, hp, hf⟩
  have HP2 := Lib.hid hp
  have HF2 := Lib.hid (HF1.out.trans hf)
  clear HP1 HF1 hp hf NC 
  obtain ⟨s5, e1, h⟩ := mod_out HM.out
  have NC := Lib.hid (must_q HP2.out ({ data := #[40] }) e1)
  replace HM := Lib.hid h
  clear h e1
  go_wp2_with fail
  refine NC.out.mono ?_
  rintro e w6 ⟨rfl, R7, hp, hf⟩
  have HP3 := Lib.hid hp
  have HF3 := Lib.hid (HF2.out.trans hf)
  clear HP2 HF2 hp hf NC 
  go_upto_region 5 with fail
  have ka := Keeps.one w6 (.cells #[] 3)
  obtain ⟨B9, hB⟩ : ∃ B9, B9 = w6.heap.size := ⟨_, rfl⟩
  obtain ⟨w8, hw⟩ : ∃ w8, w8 = w6.alloc (.cells #[] 3) := ⟨_, rfl⟩
  have HB4 : Hid (w8.ownsRow 0 3 1 (.slice (some ⟨B9, 0, none⟩) 0 0) 0 (valI []) ∧ ∀ g, (Value.slice (some ⟨B9, 0, none⟩) 0 0).ownBlock = some g → ¬ R7 g ∧ w.heap.size ≤ g) := Lib.hid ⟨by rw [hw, hB]; exact World.ownsRow_made w6 #[] 0 (Nat.zero_le _) (by decide) rfl, fun g hg => by cases hg; rw [hB]; exact ⟨HP3.out.new, HF3.out.1.size⟩⟩
  rw [← hB]
  rw [← hw] at ka ⊢
  have HP4 := Lib.hid (HP3.out.keep ka)
  have HF4 := Lib.hid (HF3.out.keeps ka)
  clear HP3 HF3 ka hw hB
  obtain ⟨b, hb, h⟩ := ask_out HM.out
  obtain ⟨L, sL, hm, h⟩ := bind_out h
  have HB9 := Lib.hid hb
  have HA := Lib.hid hm
  replace HM := Lib.hid h
  clear h hm hb
  obtain ⟨b1, hb1⟩ : ∃ b1, b1 = isR T [41] s5 := ⟨_, rfl⟩
  have IC := Lib.hid (ris_q HP4.out ({ data := #[41] }) hb1)
  have HB1 := Lib.hid hb1
  have c5 := HP4.out.see.c5
  have HC5 := Lib.hid c5
  clear hb1 c5
  obtain ⟨mb, hmb⟩ : ∃ mb : Bool, mb = b := ⟨_, rfl⟩
  have HMB := Lib.hid hmb
  clear hmb
  cases b1 with
  | true =>
    go_wp2_with fail
    refine IC.out.mono ?_
    rintro e w10 ⟨rfl, k1⟩
    have HP5 := Lib.hid (HP4.out.keep k1)
    have HF5 := Lib.hid (HF4.out.keeps k1)
    have HB5 := Lib.hid (own_keep HB4.out.1 ((Fr.refl R7 w8).keeps k1) HB4.out.2)
    clear HP4 HF4 HB4 IC k1 
    have hbf : b = false := by have := HB9.out; rw [show (isR T [41] s5) = true from HB1.out.symm] at this; rw [this]; rfl
    subst hbf
    clear HB9 HB1 HC5
    go_upto_region 7 with fail
    go_loopg [5, 7, 8] (N + 1) (fun k s5 s7 s8 wr => ∃ (more : Bool) (l : List Int) (A : Option Addr) (n c : Nat) (sk : PS) (Rk : Nat → Prop), s5 = .slice A n c ∧ s7 = .bool more ∧ n = l.length ∧ n + k ≤ N + 1 ∧ (if more then rargsR T ex (k - 1) l else pure l) sk = some (L, sL) ∧ Red wr P src T Rk sk ∧ Fr R w Rk wr ∧ (wr.ownsRow 0 3 1 (.slice A n c) n (valI l) ∧ ∀ g, (Value.slice A n c).ownBlock = some g → ¬ Rk g ∧ w.heap.size ≤ g))
    case atStart => exact ⟨_, [], _, 0, _, _, _, rfl, rfl, rfl, by omega, HA.out, HP5.out, HF5.out, HB5.out⟩
    case round =>
      obtain ⟨more, l, A, n, c, sk, Rk, rfl, rfl, hnl, hnk, hm, hp, hf, hb⟩ := hrel
      clear HP5 HF5 HB5 HA
      have HP0 := Lib.hid hp
      have HF0 := Lib.hid hf
      have HB0 := Lib.hid hb
      have HNL := Lib.hid hnl
      have HNK := Lib.hid hnk
      have hn2 : n ≤ 100001 := by omega
      clear hp hf hb hnl hnk
      cases more with
      | false =>
        have hm2 : (pure l : PM (List Int)) sk = some (L, sL) := hm
        obtain ⟨q1, q2⟩ := pure_end hm2
        subst q1
        subst q2
        clear hm hm2
        go_upto_region 13 with fail
        obtain ⟨s11, e1, h⟩ := mod_out HM.out
        have NC := Lib.hid (must_q HP0.out ({ data := #[41] }) e1)
        replace HM := Lib.hid h
        clear h e1
        go_wp2_with fail
        refine NC.out.mono ?_
        rintro e w12 ⟨rfl, R13, hp, hf⟩
        have HP1 := Lib.hid hp
        have HF1 := Lib.hid (HF0.out.trans hf)
        have HB1 := Lib.hid (own_keep HB0.out.1 hf HB0.out.2)
        clear HP0 HF0 HB0 hp hf NC 
        have NC := Lib.hid ((putC P src T).row HP1.out (21) (ln) (0) (x) L (HNL.out) HB1.out.1 HF1.out HLO.out HB1.out.2 HM.out)
        go_wp2_with fail
        refine NC.out.mono ?_
        rintro e w14 ⟨rfl, R15, hp, hf⟩
        have HZ : Hid (∃ R', Red w14 P src T R' s' ∧ Fr R w R' w14) := Lib.hid ⟨_, hp, hf⟩
        clear hp hf NC 
        go_wp2_with fail
        go_ret
        exact ⟨rfl, HZ.out⟩
      | true =>
        have hm2 : rargsR T ex (gk - 1) l sk = some (L, sL) := hm
        clear hm
        obtain ⟨k, hk⟩ : ∃ k, gk - 1 = k + 1 := by
          rcases hgk : gk - 1 with _ | k
          · rw [hgk] at hm2
            cases hm2
          · exact ⟨k, rfl⟩
        rw [hk] at hm2
        have HKK := Lib.hid hk
        clear hk
        unfold rargsR at hm2
        have HA := Lib.hid hm2
        clear hm2
        obtain ⟨y, s16, hm, h⟩ := bind_out HA.out
        have NC := Lib.hid (EX _ _ _ _ _ hm HP0.out)
        replace HA := Lib.hid h
        clear h hm
        go_wp2_with fail
        refine NC.out.mono ?_
        rintro e w17 ⟨rfl, R18, hp, hf⟩
        have HP1 := Lib.hid hp
        have HF1 := Lib.hid (HF0.out.trans hf)
        have HB1 := Lib.hid (own_keep HB0.out.1 hf HB0.out.2)
        clear HP0 HF0 HB0 hp hf NC 
        go_wp2_with (at_builtin; refine wpList_append_atk rfl (.tmp 30) (.tmp 32) 31 rfl 0 3 i0 _ 1 8 Tryd.underlying31 hi0 hz0 hz1 hz2 (by rfl) (by omega) (.slice A n c) (n) (valI l) (by rfl) (ownsRow_keep HB1.out.1 (fun g hg => (Keeps.one w17 _).block g (own_ltk HB1.out.1 hg) (fun h => h))) ⟨w17.heap.size, 0, none⟩ 1 1 (valI [y]) (by rfl) (by rfl) (newsI y _) (valI_one _) (by omega) (by omega) (Nat.zero_le _) ?_; intro v5 w19 h5 g5 b5; obtain ⟨A20, c21, rfl⟩ := own_formk h5; have hmm := own_moreR HP1.out HF1.out HLO.out HB1.out.2 (Keeps.one w17 (.cells #[.int .i64 y] 3)) g5 b5; have HP2 := Lib.hid hmm.1; have HF2 := Lib.hid hmm.2.1; have HB2 : Hid (w19.ownsRow 0 3 1 (.slice A20 (n + 1) c21) (n + 1) (valI (l ++ [y])) ∧ ∀ g, (Value.slice A20 (n + 1) c21).ownBlock = some g → ¬ R18 g ∧ w.heap.size ≤ g) := Lib.hid (And.intro (row_app h5) hmm.2.2.1); clear hmm h5 g5 b5 HP1 HF1 HB1)
        obtain ⟨b, hb, h⟩ := ask_out HA.out
        have IC := Lib.hid (ris_q HP2.out ({ data := #[44] }) hb)
        replace HA := Lib.hid h
        clear h hb
        cases b with
        | true =>
          have h := HA.out
          rw [if_pos rfl] at h
          replace HA := Lib.hid h
          clear h
          go_wp2_with fail
          refine IC.out.mono ?_
          rintro e w22 ⟨rfl, k1⟩
          have HP3 := Lib.hid (HP2.out.keep k1)
          have HF3 := Lib.hid (HF2.out.keeps k1)
          have HB3 := Lib.hid (own_keep HB2.out.1 ((Fr.refl R18 w19).keeps k1) HB2.out.2)
          clear HP2 HF2 HB2 IC k1 
          go_upto_region 12 with fail
          obtain ⟨u, s23, hm, h⟩ := bind_out HA.out
          obtain ⟨hi, e1⟩ := go_out hm
          replace HA := Lib.hid h
          obtain ⟨ew, c2, f2, hp, hf⟩ := HP3.out.stepAt hi
          have HP4 : Hid (Red (w22.setCell ⟨P, 2, none⟩ (.int .i64 ((s16.i : Int) + 1))) P src T R18 s23) := Lib.hid (by rw [e1]; exact hp)
          have HF4 := Lib.hid (HF3.out.trans hf)
          have HB4 := Lib.hid (own_keep HB3.out.1 hf HB3.out.2)
          clear h hm e1 hi hp hf HP3 HF3 HB3
          generalize (s16.i : Int) = ii at *
          go_wp2_with fail
          generalize w22.setCell ⟨P, 2, none⟩ (.int .i64 (ii + 1)) = w24 at *
          clear c2 f2 ew
          go_roundg (gk - 1)
          case measure => have := HKK.out; omega
          case rel => exact ⟨_, l ++ [y], _, n + 1, _, _, _, rfl, rfl, by rw [List.length_append, ← HNL.out]; rfl, by have := HNK.out; have := HKK.out; omega, by rw [if_pos rfl, show gk - 1 - 1 = k by have := HKK.out; omega]; exact HA.out, HP4.out, HF4.out, HB4.out⟩
        | false =>
          have h := HA.out
          rw [if_neg (by decide)] at h
          replace HA := Lib.hid h
          clear h
          go_wp2_with fail
          refine IC.out.mono ?_
          rintro e w25 ⟨rfl, k1⟩
          have HP3 := Lib.hid (HP2.out.keep k1)
          have HF3 := Lib.hid (HF2.out.keeps k1)
          have HB3 := Lib.hid (own_keep HB2.out.1 ((Fr.refl R18 w19).keeps k1) HB2.out.2)
          clear HP2 HF2 HB2 IC k1 
          go_wp2_with fail
          go_roundg (gk - 1)
          case measure => have := HKK.out; omega
          case rel => exact ⟨_, l ++ [y], _, n + 1, _, _, _, rfl, rfl, by rw [List.length_append, ← HNL.out]; rfl, by have := HNK.out; have := HKK.out; omega, by rw [if_neg (by decide)]; exact HA.out, HP3.out, HF3.out, HB3.out⟩
  | false =>
    go_wp2_with fail
    refine IC.out.mono ?_
    rintro e w26 ⟨rfl, k1⟩
    have HP5 := Lib.hid (HP4.out.keep k1)
    have HF5 := Lib.hid (HF4.out.keeps k1)
    have HB5 := Lib.hid (own_keep HB4.out.1 ((Fr.refl R7 w8).keeps k1) HB4.out.2)
    clear HP4 HF4 HB4 IC k1 
    have c5 := HP5.out.see.c5
    clear HC5
    by_cases he : s5.er = 0
    · skip
      have hbt : b = true := by have := HB9.out; rw [show (isR T [41] s5) = false from HB1.out.symm, decide_eq_true he] at this; rw [this]; rfl
      subst hbt
      rw [he] at c5
      clear HB9 HB1 he
      go_upto_region 7 with fail
      clear c5
      go_loopg [5, 7, 8] (N + 1) (fun k s5 s7 s8 wr => ∃ (more : Bool) (l : List Int) (A : Option Addr) (n c : Nat) (sk : PS) (Rk : Nat → Prop), s5 = .slice A n c ∧ s7 = .bool more ∧ n = l.length ∧ n + k ≤ N + 1 ∧ (if more then rargsR T ex (k - 1) l else pure l) sk = some (L, sL) ∧ Red wr P src T Rk sk ∧ Fr R w Rk wr ∧ (wr.ownsRow 0 3 1 (.slice A n c) n (valI l) ∧ ∀ g, (Value.slice A n c).ownBlock = some g → ¬ Rk g ∧ w.heap.size ≤ g))
      case atStart => exact ⟨_, [], _, 0, _, _, _, rfl, rfl, rfl, by omega, HA.out, HP5.out, HF5.out, HB5.out⟩
      case round =>
        obtain ⟨more, l, A, n, c, sk, Rk, rfl, rfl, hnl, hnk, hm, hp, hf, hb⟩ := hrel
        clear HP5 HF5 HB5 HA
        have HP0 := Lib.hid hp
        have HF0 := Lib.hid hf
        have HB0 := Lib.hid hb
        have HNL := Lib.hid hnl
        have HNK := Lib.hid hnk
        have hn2 : n ≤ 100001 := by omega
        clear hp hf hb hnl hnk
        cases more with
        | false =>
          have hm2 : (pure l : PM (List Int)) sk = some (L, sL) := hm
          obtain ⟨q1, q2⟩ := pure_end hm2
          subst q1
          subst q2
          clear hm hm2
          go_upto_region 13 with fail
          obtain ⟨s27, e1, h⟩ := mod_out HM.out
          have NC := Lib.hid (must_q HP0.out ({ data := #[41] }) e1)
          replace HM := Lib.hid h
          clear h e1
          go_wp2_with fail
          refine NC.out.mono ?_
          rintro e w28 ⟨rfl, R29, hp, hf⟩
          have HP1 := Lib.hid hp
          have HF1 := Lib.hid (HF0.out.trans hf)
          have HB1 := Lib.hid (own_keep HB0.out.1 hf HB0.out.2)
          clear HP0 HF0 HB0 hp hf NC 
          have NC := Lib.hid ((putC P src T).row HP1.out (21) (ln) (0) (x) L (HNL.out) HB1.out.1 HF1.out HLO.out HB1.out.2 HM.out)
          go_wp2_with fail
          refine NC.out.mono ?_
          rintro e w30 ⟨rfl, R31, hp, hf⟩
          have HZ : Hid (∃ R', Red w30 P src T R' s' ∧ Fr R w R' w30) := Lib.hid ⟨_, hp, hf⟩
          clear hp hf NC 
          go_wp2_with fail
          go_ret
          exact ⟨rfl, HZ.out⟩
        | true =>
          have hm2 : rargsR T ex (gk - 1) l sk = some (L, sL) := hm
          clear hm
          obtain ⟨k, hk⟩ : ∃ k, gk - 1 = k + 1 := by
            rcases hgk : gk - 1 with _ | k
            · rw [hgk] at hm2
              cases hm2
            · exact ⟨k, rfl⟩
          rw [hk] at hm2
          have HKK := Lib.hid hk
          clear hk
          unfold rargsR at hm2
          have HA := Lib.hid hm2
          clear hm2
          obtain ⟨y, s32, hm, h⟩ := bind_out HA.out
          have NC := Lib.hid (EX _ _ _ _ _ hm HP0.out)
          replace HA := Lib.hid h
          clear h hm
          go_wp2_with fail
          refine NC.out.mono ?_
          rintro e w33 ⟨rfl, R34, hp, hf⟩
          have HP1 := Lib.hid hp
          have HF1 := Lib.hid (HF0.out.trans hf)
          have HB1 := Lib.hid (own_keep HB0.out.1 hf HB0.out.2)
          clear HP0 HF0 HB0 hp hf NC 
          go_wp2_with (at_builtin; refine wpList_append_atk rfl (.tmp 30) (.tmp 32) 31 rfl 0 3 i0 _ 1 8 Tryd.underlying31 hi0 hz0 hz1 hz2 (by rfl) (by omega) (.slice A n c) (n) (valI l) (by rfl) (ownsRow_keep HB1.out.1 (fun g hg => (Keeps.one w33 _).block g (own_ltk HB1.out.1 hg) (fun h => h))) ⟨w33.heap.size, 0, none⟩ 1 1 (valI [y]) (by rfl) (by rfl) (newsI y _) (valI_one _) (by omega) (by omega) (Nat.zero_le _) ?_; intro v5 w35 h5 g5 b5; obtain ⟨A36, c37, rfl⟩ := own_formk h5; have hmm := own_moreR HP1.out HF1.out HLO.out HB1.out.2 (Keeps.one w33 (.cells #[.int .i64 y] 3)) g5 b5; have HP2 := Lib.hid hmm.1; have HF2 := Lib.hid hmm.2.1; have HB2 : Hid (w35.ownsRow 0 3 1 (.slice A36 (n + 1) c37) (n + 1) (valI (l ++ [y])) ∧ ∀ g, (Value.slice A36 (n + 1) c37).ownBlock = some g → ¬ R34 g ∧ w.heap.size ≤ g) := Lib.hid (And.intro (row_app h5) hmm.2.2.1); clear hmm h5 g5 b5 HP1 HF1 HB1)
          obtain ⟨b, hb, h⟩ := ask_out HA.out
          have IC := Lib.hid (ris_q HP2.out ({ data := #[44] }) hb)
          replace HA := Lib.hid h
          clear h hb
          cases b with
          | true =>
            have h := HA.out
            rw [if_pos rfl] at h
            replace HA := Lib.hid h
            clear h
            go_wp2_with fail
            refine IC.out.mono ?_
            rintro e w38 ⟨rfl, k1⟩
            have HP3 := Lib.hid (HP2.out.keep k1)
            have HF3 := Lib.hid (HF2.out.keeps k1)
            have HB3 := Lib.hid (own_keep HB2.out.1 ((Fr.refl R34 w35).keeps k1) HB2.out.2)
            clear HP2 HF2 HB2 IC k1 
            go_upto_region 12 with fail
            obtain ⟨u, s39, hm, h⟩ := bind_out HA.out
            obtain ⟨hi, e1⟩ := go_out hm
            replace HA := Lib.hid h
            obtain ⟨ew, c2, f2, hp, hf⟩ := HP3.out.stepAt hi
            have HP4 : Hid (Red (w38.setCell ⟨P, 2, none⟩ (.int .i64 ((s32.i : Int) + 1))) P src T R34 s39) := Lib.hid (by rw [e1]; exact hp)
            have HF4 := Lib.hid (HF3.out.trans hf)
            have HB4 := Lib.hid (own_keep HB3.out.1 hf HB3.out.2)
            clear h hm e1 hi hp hf HP3 HF3 HB3
            generalize (s32.i : Int) = ii at *
            go_wp2_with fail
            generalize w38.setCell ⟨P, 2, none⟩ (.int .i64 (ii + 1)) = w40 at *
            clear c2 f2 ew
            go_roundg (gk - 1)
            case measure => have := HKK.out; omega
            case rel => exact ⟨_, l ++ [y], _, n + 1, _, _, _, rfl, rfl, by rw [List.length_append, ← HNL.out]; rfl, by have := HNK.out; have := HKK.out; omega, by rw [if_pos rfl, show gk - 1 - 1 = k by have := HKK.out; omega]; exact HA.out, HP4.out, HF4.out, HB4.out⟩
          | false =>
            have h := HA.out
            rw [if_neg (by decide)] at h
            replace HA := Lib.hid h
            clear h
            go_wp2_with fail
            refine IC.out.mono ?_
            rintro e w41 ⟨rfl, k1⟩
            have HP3 := Lib.hid (HP2.out.keep k1)
            have HF3 := Lib.hid (HF2.out.keeps k1)
            have HB3 := Lib.hid (own_keep HB2.out.1 ((Fr.refl R34 w35).keeps k1) HB2.out.2)
            clear HP2 HF2 HB2 IC k1 
            go_wp2_with fail
            go_roundg (gk - 1)
            case measure => have := HKK.out; omega
            case rel => exact ⟨_, l ++ [y], _, n + 1, _, _, _, rfl, rfl, by rw [List.length_append, ← HNL.out]; rfl, by have := HNK.out; have := HKK.out; omega, by rw [if_neg (by decide)]; exact HA.out, HP3.out, HF3.out, HB3.out⟩
    · skip
      have hbf : b = false := by have := HB9.out; rw [show (isR T [41] s5) = false from HB1.out.symm, decide_eq_false he] at this; rw [this]; rfl
      subst hbf
      have hne : ((s5.er : Int) == 0) = false := by simp; omega
      generalize (s5.er : Int) = er at *
      clear HB9 HB1 he
      go_upto_region 7 with fail
      clear c5 hne
      go_loopg [5, 7, 8] (N + 1) (fun k s5 s7 s8 wr => ∃ (more : Bool) (l : List Int) (A : Option Addr) (n c : Nat) (sk : PS) (Rk : Nat → Prop), s5 = .slice A n c ∧ s7 = .bool more ∧ n = l.length ∧ n + k ≤ N + 1 ∧ (if more then rargsR T ex (k - 1) l else pure l) sk = some (L, sL) ∧ Red wr P src T Rk sk ∧ Fr R w Rk wr ∧ (wr.ownsRow 0 3 1 (.slice A n c) n (valI l) ∧ ∀ g, (Value.slice A n c).ownBlock = some g → ¬ Rk g ∧ w.heap.size ≤ g))
      case atStart => exact ⟨_, [], _, 0, _, _, _, rfl, rfl, rfl, by omega, HA.out, HP5.out, HF5.out, HB5.out⟩
      case round =>
        obtain ⟨more, l, A, n, c, sk, Rk, rfl, rfl, hnl, hnk, hm, hp, hf, hb⟩ := hrel
        clear HP5 HF5 HB5 HA
        have HP0 := Lib.hid hp
        have HF0 := Lib.hid hf
        have HB0 := Lib.hid hb
        have HNL := Lib.hid hnl
        have HNK := Lib.hid hnk
        have hn2 : n ≤ 100001 := by omega
        clear hp hf hb hnl hnk
        cases more with
        | false =>
          have hm2 : (pure l : PM (List Int)) sk = some (L, sL) := hm
          obtain ⟨q1, q2⟩ := pure_end hm2
          subst q1
          subst q2
          clear hm hm2
          go_upto_region 13 with fail
          obtain ⟨s42, e1, h⟩ := mod_out HM.out
          have NC := Lib.hid (must_q HP0.out ({ data := #[41] }) e1)
          replace HM := Lib.hid h
          clear h e1
          go_wp2_with fail
          refine NC.out.mono ?_
          rintro e w43 ⟨rfl, R44, hp, hf⟩
          have HP1 := Lib.hid hp
          have HF1 := Lib.hid (HF0.out.trans hf)
          have HB1 := Lib.hid (own_keep HB0.out.1 hf HB0.out.2)
          clear HP0 HF0 HB0 hp hf NC 
          have NC := Lib.hid ((putC P src T).row HP1.out (21) (ln) (0) (x) L (HNL.out) HB1.out.1 HF1.out HLO.out HB1.out.2 HM.out)
          go_wp2_with fail
          refine NC.out.mono ?_
          rintro e w45 ⟨rfl, R46, hp, hf⟩
          have HZ : Hid (∃ R', Red w45 P src T R' s' ∧ Fr R w R' w45) := Lib.hid ⟨_, hp, hf⟩
          clear hp hf NC 
          go_wp2_with fail
          go_ret
          exact ⟨rfl, HZ.out⟩
        | true =>
          have hm2 : rargsR T ex (gk - 1) l sk = some (L, sL) := hm
          clear hm
          obtain ⟨k, hk⟩ : ∃ k, gk - 1 = k + 1 := by
            rcases hgk : gk - 1 with _ | k
            · rw [hgk] at hm2
              cases hm2
            · exact ⟨k, rfl⟩
          rw [hk] at hm2
          have HKK := Lib.hid hk
          clear hk
          unfold rargsR at hm2
          have HA := Lib.hid hm2
          clear hm2
          obtain ⟨y, s47, hm, h⟩ := bind_out HA.out
          have NC := Lib.hid (EX _ _ _ _ _ hm HP0.out)
          replace HA := Lib.hid h
          clear h hm
          go_wp2_with fail
          refine NC.out.mono ?_
          rintro e w48 ⟨rfl, R49, hp, hf⟩
          have HP1 := Lib.hid hp
          have HF1 := Lib.hid (HF0.out.trans hf)
          have HB1 := Lib.hid (own_keep HB0.out.1 hf HB0.out.2)
          clear HP0 HF0 HB0 hp hf NC 
          go_wp2_with (at_builtin; refine wpList_append_atk rfl (.tmp 30) (.tmp 32) 31 rfl 0 3 i0 _ 1 8 Tryd.underlying31 hi0 hz0 hz1 hz2 (by rfl) (by omega) (.slice A n c) (n) (valI l) (by rfl) (ownsRow_keep HB1.out.1 (fun g hg => (Keeps.one w48 _).block g (own_ltk HB1.out.1 hg) (fun h => h))) ⟨w48.heap.size, 0, none⟩ 1 1 (valI [y]) (by rfl) (by rfl) (newsI y _) (valI_one _) (by omega) (by omega) (Nat.zero_le _) ?_; intro v5 w50 h5 g5 b5; obtain ⟨A51, c52, rfl⟩ := own_formk h5; have hmm := own_moreR HP1.out HF1.out HLO.out HB1.out.2 (Keeps.one w48 (.cells #[.int .i64 y] 3)) g5 b5; have HP2 := Lib.hid hmm.1; have HF2 := Lib.hid hmm.2.1; have HB2 : Hid (w50.ownsRow 0 3 1 (.slice A51 (n + 1) c52) (n + 1) (valI (l ++ [y])) ∧ ∀ g, (Value.slice A51 (n + 1) c52).ownBlock = some g → ¬ R49 g ∧ w.heap.size ≤ g) := Lib.hid (And.intro (row_app h5) hmm.2.2.1); clear hmm h5 g5 b5 HP1 HF1 HB1)
          obtain ⟨b, hb, h⟩ := ask_out HA.out
          have IC := Lib.hid (ris_q HP2.out ({ data := #[44] }) hb)
          replace HA := Lib.hid h
          clear h hb
          cases b with
          | true =>
            have h := HA.out
            rw [if_pos rfl] at h
            replace HA := Lib.hid h
            clear h
            go_wp2_with fail
            refine IC.out.mono ?_
            rintro e w53 ⟨rfl, k1⟩
            have HP3 := Lib.hid (HP2.out.keep k1)
            have HF3 := Lib.hid (HF2.out.keeps k1)
            have HB3 := Lib.hid (own_keep HB2.out.1 ((Fr.refl R49 w50).keeps k1) HB2.out.2)
            clear HP2 HF2 HB2 IC k1 
            go_upto_region 12 with fail
            obtain ⟨u, s54, hm, h⟩ := bind_out HA.out
            obtain ⟨hi, e1⟩ := go_out hm
            replace HA := Lib.hid h
            obtain ⟨ew, c2, f2, hp, hf⟩ := HP3.out.stepAt hi
            have HP4 : Hid (Red (w53.setCell ⟨P, 2, none⟩ (.int .i64 ((s47.i : Int) + 1))) P src T R49 s54) := Lib.hid (by rw [e1]; exact hp)
            have HF4 := Lib.hid (HF3.out.trans hf)
            have HB4 := Lib.hid (own_keep HB3.out.1 hf HB3.out.2)
            clear h hm e1 hi hp hf HP3 HF3 HB3
            generalize (s47.i : Int) = ii at *
            go_wp2_with fail
            generalize w53.setCell ⟨P, 2, none⟩ (.int .i64 (ii + 1)) = w55 at *
            clear c2 f2 ew
            go_roundg (gk - 1)
            case measure => have := HKK.out; omega
            case rel => exact ⟨_, l ++ [y], _, n + 1, _, _, _, rfl, rfl, by rw [List.length_append, ← HNL.out]; rfl, by have := HNK.out; have := HKK.out; omega, by rw [if_pos rfl, show gk - 1 - 1 = k by have := HKK.out; omega]; exact HA.out, HP4.out, HF4.out, HB4.out⟩
          | false =>
            have h := HA.out
            rw [if_neg (by decide)] at h
            replace HA := Lib.hid h
            clear h
            go_wp2_with fail
            refine IC.out.mono ?_
            rintro e w56 ⟨rfl, k1⟩
            have HP3 := Lib.hid (HP2.out.keep k1)
            have HF3 := Lib.hid (HF2.out.keeps k1)
            have HB3 := Lib.hid (own_keep HB2.out.1 ((Fr.refl R49 w50).keeps k1) HB2.out.2)
            clear HP2 HF2 HB2 IC k1 
            go_wp2_with fail
            go_roundg (gk - 1)
            case measure => have := HKK.out; omega
            case rel => exact ⟨_, l ++ [y], _, n + 1, _, _, _, rfl, rfl, by rw [List.length_append, ← HNL.out]; rfl, by have := HNK.out; have := HKK.out; omega, by rw [if_neg (by decide)]; exact HA.out, HP3.out, HF3.out, HB3.out⟩
end Go.Proofs.YtgelggdgbmldiaaDoor

namespace Go.Proofs.YtgelggdgbmldiaaDoor
open Go Go.RowKit Go.Shelf
set_option linter.unusedVariables false
set_option linter.unusedSimpArgs false
set_option maxRecDepth 100000 in
set_option maxHeartbeats 16000000 in
theorem rright_any {P : Nat} {src : ByteArray} {T : List Tok} {N : Nat} {ex : PM Int} (hsz : src.size ≤ 1000) (EX : RexC P src T 119 ex) (CALL : RexC P src T 133 (rcallM src.data.toList T N ex)) : RexC P src T 118 (rrightM src.data.toList T N ex) := by
  intro s r s' R w h hp
  have HP0 := Lib.hid hp
  have HF0 := Lib.hid (Fr.refl R w)
  have HLO := Lib.hid hp.lo
  have HM := Lib.hid h
  clear h hp
  go_enter Tryd.func118, Tryd.ntmps118
  obtain ⟨ln, hln, h⟩ := ask_out HM.out
  have LC := Lib.hid (rline_q hsz HP0.out hln)
  replace HM := Lib.hid h
  clear h hln
  go_wp2_with fail
  refine LC.out.mono ?_
  rintro e w1 ⟨rfl, k1⟩
  have HP1 := Lib.hid (HP0.out.keep k1)
  have HF1 := Lib.hid (HF0.out.keeps k1)
  clear HP0 HF0 LC k1 
  obtain ⟨b, hb, h⟩ := ask_out HM.out
  have IC := Lib.hid (ris_q HP1.out ({ data := #[105, 110, 112, 117, 116] }) hb)
  replace HM := Lib.hid h
  clear h hb
  cases b with
  | true =>
    have h := HM.out
    rw [if_pos rfl] at h
    replace HM := Lib.hid h
    clear h
    go_wp2_with fail
    refine IC.out.mono ?_
    rintro e w2 ⟨rfl, k1⟩
    have HP2 := Lib.hid (HP1.out.keep k1)
    have HF2 := Lib.hid (HF1.out.keeps k1)
    clear HP1 HF1 IC k1 
    obtain ⟨u, s3, hm, h⟩ := bind_out HM.out
    obtain ⟨hi, e1⟩ := go_out hm
    replace HM := Lib.hid h
    obtain ⟨ew, c2, f2, hp, hf⟩ := HP2.out.stepAt hi
    have HP3 : Hid (Red (w2.setCell ⟨P, 2, none⟩ (.int .i64 ((s.i : Int) + 1))) P src T R s3) := Lib.hid (by rw [e1]; exact hp)
    have HF3 := Lib.hid (HF2.out.trans hf)
    clear h hm e1 hi hp hf HP2 HF2
    generalize (s.i : Int) = ii at *
    go_upto_region 5 with fail
    generalize w2.setCell ⟨P, 2, none⟩ (.int .i64 (ii + 1)) = w4 at *
    clear c2 f2 ew
    have NC := Lib.hid ((putC P src T).nil HP3.out (19) (ln) (0) ([]) HM.out)
    go_wp2_with fail
    refine NC.out.mono ?_
    rintro e w5 ⟨rfl, R6, hp, hf⟩
    have HP4 := Lib.hid hp
    have HF4 := Lib.hid (HF3.out.trans hf)
    clear HP3 HF3 hp hf NC 
    go_wp2_with fail
    go_ret
    exact ⟨rfl, _, HP4.out, HF4.out⟩
  | false =>
    have h := HM.out
    rw [if_neg (by decide)] at h
    replace HM := Lib.hid h
    clear h
    go_wp2_with fail
    refine IC.out.mono ?_
    rintro e w7 ⟨rfl, k1⟩
    have HP2 := Lib.hid (HP1.out.keep k1)
    have HF2 := Lib.hid (HF1.out.keeps k1)
    clear HP1 HF1 IC k1 
    obtain ⟨b, hb, h⟩ := ask_out HM.out
    have IC := Lib.hid (ris_q HP2.out ({ data := #[110, 101, 119] }) hb)
    replace HM := Lib.hid h
    clear h hb
    cases b with
    | true =>
      have h := HM.out
      rw [if_pos rfl] at h
      replace HM := Lib.hid h
      clear h
      go_wp2_with fail
      refine IC.out.mono ?_
      rintro e w8 ⟨rfl, k1⟩
      have HP3 := Lib.hid (HP2.out.keep k1)
      have HF3 := Lib.hid (HF2.out.keeps k1)
      clear HP2 HF2 IC k1 
      obtain ⟨u, s9, hm, h⟩ := bind_out HM.out
      obtain ⟨hi, e1⟩ := go_out hm
      replace HM := Lib.hid h
      obtain ⟨ew, c2, f2, hp, hf⟩ := HP3.out.stepAt hi
      have HP4 : Hid (Red (w8.setCell ⟨P, 2, none⟩ (.int .i64 ((s.i : Int) + 1))) P src T R s9) := Lib.hid (by rw [e1]; exact hp)
      have HF4 := Lib.hid (HF3.out.trans hf)
      clear h hm e1 hi hp hf HP3 HF3
      generalize (s.i : Int) = ii at *
      go_upto_region 9 with fail
      generalize w8.setCell ⟨P, 2, none⟩ (.int .i64 (ii + 1)) = w10 at *
      clear c2 f2 ew
      obtain ⟨s11, e1, h⟩ := mod_out HM.out
      have NC := Lib.hid (must_q HP4.out ({ data := #[40] }) e1)
      replace HM := Lib.hid h
      clear h e1
      go_wp2_with fail
      refine NC.out.mono ?_
      rintro e w12 ⟨rfl, R13, hp, hf⟩
      have HP5 := Lib.hid hp
      have HF5 := Lib.hid (HF4.out.trans hf)
      clear HP4 HF4 hp hf NC 
      obtain ⟨a, s14, hm, h⟩ := bind_out HM.out
      have NC := Lib.hid (EX _ _ _ _ _ hm HP5.out)
      replace HM := Lib.hid h
      clear h hm
      go_wp2_with fail
      refine NC.out.mono ?_
      rintro e w15 ⟨rfl, R16, hp, hf⟩
      have HP6 := Lib.hid hp
      have HF6 := Lib.hid (HF5.out.trans hf)
      clear HP5 HF5 hp hf NC 
      obtain ⟨s17, e1, h⟩ := mod_out HM.out
      have NC := Lib.hid (must_q HP6.out ({ data := #[41] }) e1)
      replace HM := Lib.hid h
      clear h e1
      go_wp2_with fail
      refine NC.out.mono ?_
      rintro e w18 ⟨rfl, R19, hp, hf⟩
      have HP7 := Lib.hid hp
      have HF7 := Lib.hid (HF6.out.trans hf)
      clear HP6 HF6 hp hf NC 
      have NC := Lib.hid ((putC P src T).one HP7.out (20) (ln) (0) ([]) a HM.out)
      go_wp2_with fail
      refine NC.out.mono ?_
      rintro e w20 ⟨rfl, R21, hp, hf⟩
      have HP8 := Lib.hid hp
      have HF8 := Lib.hid (HF7.out.trans hf)
      clear HP7 HF7 hp hf NC 
      go_wp2_with fail
      go_ret
      exact ⟨rfl, _, HP8.out, HF8.out⟩
    | false =>
      have h := HM.out
      rw [if_neg (by decide)] at h
      replace HM := Lib.hid h
      clear h
      go_wp2_with fail
      refine IC.out.mono ?_
      rintro e w22 ⟨rfl, k1⟩
      have HP3 := Lib.hid (HP2.out.keep k1)
      have HF3 := Lib.hid (HF2.out.keeps k1)
      clear HP2 HF2 IC k1 
      obtain ⟨b, hb, h⟩ := ask_out HM.out
      have IC := Lib.hid (rcalls_q HP3.out hb)
      replace HM := Lib.hid h
      clear h hb
      cases b with
      | true =>
        have h := HM.out
        rw [if_pos rfl] at h
        replace HM := Lib.hid h
        clear h
        go_wp2_with fail
        refine IC.out.mono ?_
        rintro e w23 ⟨rfl, k1⟩
        have HP4 := Lib.hid (HP3.out.keep k1)
        have HF4 := Lib.hid (HF3.out.keeps k1)
        clear HP3 HF3 IC k1 
        have NC := Lib.hid (CALL _ _ _ _ _ HM.out HP4.out)
        go_wp2_with fail
        refine NC.out.mono ?_
        rintro e w24 ⟨rfl, R25, hp, hf⟩
        have HP5 := Lib.hid hp
        have HF5 := Lib.hid (HF4.out.trans hf)
        clear HP4 HF4 hp hf NC 
        go_wp2_with fail
        go_ret
        exact ⟨rfl, _, HP5.out, HF5.out⟩
      | false =>
        have h := HM.out
        rw [if_neg (by decide)] at h
        replace HM := Lib.hid h
        clear h
        go_wp2_with fail
        refine IC.out.mono ?_
        rintro e w26 ⟨rfl, k1⟩
        have HP4 := Lib.hid (HP3.out.keep k1)
        have HF4 := Lib.hid (HF3.out.keeps k1)
        clear HP3 HF3 IC k1 
        have NC := Lib.hid (EX _ _ _ _ _ HM.out HP4.out)
        go_wp2_with fail
        refine NC.out.mono ?_
        rintro e w27 ⟨rfl, R28, hp, hf⟩
        have HP5 := Lib.hid hp
        have HF5 := Lib.hid (HF4.out.trans hf)
        clear HP4 HF4 hp hf NC 
        go_wp2_with fail
        go_ret
        exact ⟨rfl, _, HP5.out, HF5.out⟩
set_option maxRecDepth 100000 in
set_option maxHeartbeats 16000000 in
theorem rnamed_any {P : Nat} {src : ByteArray} {T : List Tok} {N : Nat} {ex : PM Int} (EX : RexC P src T 119 ex) (CALL : RexC P src T 133 (rcallM src.data.toList T N ex)) (RIGHT : RexC P src T 118 (rrightM src.data.toList T N ex)) (ln : Int) (s : PS) (r : Int) (s' : PS) (R : Nat → Prop) (w : World) (h : rnamedM src.data.toList T N ex ln s = some (r, s')) (hp : Red w P src T R s) :
    Calls Tryd.prog 120 #[.pointer (some ⟨P, 0, none⟩), .int .i64 ln] w (PostR P src T R w (.int .i64 r) s') := by
  have HP0 := Lib.hid hp
  have HF0 := Lib.hid (Fr.refl R w)
  have HLO := Lib.hid hp.lo
  have HM := Lib.hid h
  clear h hp
  go_enter Tryd.func120, Tryd.ntmps120
  obtain ⟨b, hb, h⟩ := ask_out HM.out
  have IC := Lib.hid (rcalls_q HP0.out hb)
  replace HM := Lib.hid h
  clear h hb
  cases b with
  | true =>
    have h := HM.out
    rw [if_pos rfl] at h
    replace HM := Lib.hid h
    clear h
    go_wp2_with fail
    refine IC.out.mono ?_
    rintro e w1 ⟨rfl, k1⟩
    have HP1 := Lib.hid (HP0.out.keep k1)
    have HF1 := Lib.hid (HF0.out.keeps k1)
    clear HP0 HF0 IC k1 
    obtain ⟨a, s2, hm, h⟩ := bind_out HM.out
    have NC := Lib.hid (CALL _ _ _ _ _ hm HP1.out)
    replace HM := Lib.hid h
    clear h hm
    go_wp2_with fail
    refine NC.out.mono ?_
    rintro e w3 ⟨rfl, R4, hp, hf⟩
    have HP2 := Lib.hid hp
    have HF2 := Lib.hid (HF1.out.trans hf)
    clear HP1 HF1 hp hf NC 
    obtain ⟨s5, e1, h⟩ := mod_out HM.out
    have NC := Lib.hid (must_q HP2.out ({ data := #[59] }) e1)
    replace HM := Lib.hid h
    clear h e1
    go_wp2_with fail
    refine NC.out.mono ?_
    rintro e w6 ⟨rfl, R7, hp, hf⟩
    have HP3 := Lib.hid hp
    have HF3 := Lib.hid (HF2.out.trans hf)
    clear HP2 HF2 hp hf NC 
    have NC := Lib.hid ((putC P src T).one HP3.out (13) (ln) (0) ([]) a HM.out)
    go_wp2_with fail
    refine NC.out.mono ?_
    rintro e w8 ⟨rfl, R9, hp, hf⟩
    have HP4 := Lib.hid hp
    have HF4 := Lib.hid (HF3.out.trans hf)
    clear HP3 HF3 hp hf NC 
    go_wp2_with fail
    go_ret
    exact ⟨rfl, _, HP4.out, HF4.out⟩
  | false =>
    have h := HM.out
    rw [if_neg (by decide)] at h
    replace HM := Lib.hid h
    clear h
    go_wp2_with fail
    refine IC.out.mono ?_
    rintro e w10 ⟨rfl, k1⟩
    have HP1 := Lib.hid (HP0.out.keep k1)
    have HF1 := Lib.hid (HF0.out.keeps k1)
    clear HP0 HF0 IC k1 
    obtain ⟨x, ex, h⟩ := ask_out HM.out
    obtain ⟨s11, e1, h⟩ := mod_out h
    have NC := Lib.hid (rname_q HP1.out e1 ex)
    replace HM := Lib.hid h
    clear h e1 ex
    go_wp2_with fail
    refine NC.out.mono ?_
    rintro e w12 ⟨rfl, R13, hp, hf⟩
    have HP2 := Lib.hid hp
    have HF2 := Lib.hid (HF1.out.trans hf)
    clear HP1 HF1 hp hf NC 
    obtain ⟨b, hb, h⟩ := ask_out HM.out
    have IC := Lib.hid (ris_q HP2.out ({ data := #[91] }) hb)
    replace HM := Lib.hid h
    clear h hb
    cases b with
    | true =>
      have h := HM.out
      rw [if_pos rfl] at h
      replace HM := Lib.hid h
      clear h
      go_wp2_with fail
      refine IC.out.mono ?_
      rintro e w14 ⟨rfl, k1⟩
      have HP3 := Lib.hid (HP2.out.keep k1)
      have HF3 := Lib.hid (HF2.out.keeps k1)
      clear HP2 HF2 IC k1 
      obtain ⟨y, s15, hm, h⟩ := bind_out HM.out
      have HK := Lib.hid h
      have HW := Lib.hid hm
      clear h hm
      unfold withinR at HW
      obtain ⟨u, s16, hm, h⟩ := bind_out HW.out
      have NC := Lib.hid (rdown_any HP3.out hm)
      replace HW := Lib.hid h
      clear h hm
      go_wp2_with fail
      refine NC.out.mono ?_
      rintro e w17 ⟨rfl, R18, hp, hf⟩
      have HP4 := Lib.hid hp
      have HF4 := Lib.hid (HF3.out.trans hf)
      clear HP3 HF3 hp hf NC 
      obtain ⟨s19, e1, h⟩ := mod_out HW.out
      have NC := Lib.hid (must_q HP4.out ({ data := #[91] }) e1)
      replace HW := Lib.hid h
      clear h e1
      go_wp2_with fail
      refine NC.out.mono ?_
      rintro e w20 ⟨rfl, R21, hp, hf⟩
      have HP5 := Lib.hid hp
      have HF5 := Lib.hid (HF4.out.trans hf)
      clear HP4 HF4 hp hf NC 
      obtain ⟨a, s22, hm, h⟩ := bind_out HW.out
      have NC := Lib.hid (EX _ _ _ _ _ hm HP5.out)
      replace HW := Lib.hid h
      clear h hm
      go_wp2_with fail
      refine NC.out.mono ?_
      rintro e w23 ⟨rfl, R24, hp, hf⟩
      have HP6 := Lib.hid hp
      have HF6 := Lib.hid (HF5.out.trans hf)
      clear HP5 HF5 hp hf NC 
      obtain ⟨s25, e1, h⟩ := mod_out HW.out
      have NC := Lib.hid (must_q HP6.out ({ data := #[93] }) e1)
      replace HW := Lib.hid h
      clear h e1
      go_wp2_with fail
      refine NC.out.mono ?_
      rintro e w26 ⟨rfl, R27, hp, hf⟩
      have HP7 := Lib.hid hp
      have HF7 := Lib.hid (HF6.out.trans hf)
      clear HP6 HF6 hp hf NC 
      obtain ⟨u, s28, hm, h⟩ := bind_out HW.out
      obtain ⟨hd, e1⟩ := deep_out hm
      replace HW := Lib.hid h
      have hs := HP7.out.see
      have c4 := hs.c4
      have f4 := hs.fz 4
      have hw := IntWalk.i64_in (s25.dp - 1) (by omega)
      have hset := HP7.out.setDp (s25.dp - 1)
      have HP8 : Hid (Red (w26.setCell ⟨P, 4, none⟩ (.int .i64 (s25.dp - 1))) P src T R27 s28) := Lib.hid (by rw [e1]; exact hset.1)
      have HF8 := Lib.hid (HF7.out.trans hset.2)
      clear h hm e1 hs hset HP7 HF7
      generalize s25.dp = dp at *
      go_upto_region 14 with fail
      generalize w26.setCell ⟨P, 4, none⟩ (.int .i64 (dp - 1)) = w29 at *
      clear c4 f4 hw hd
      obtain ⟨q1, q2⟩ := pure_end HW.out
      subst q1
      subst q2
      replace HM := HK
      clear HK HW
      obtain ⟨s30, e1, h⟩ := mod_out HM.out
      have NC := Lib.hid (must_q HP8.out ({ data := #[61] }) e1)
      replace HM := Lib.hid h
      clear h e1
      go_wp2_with fail
      refine NC.out.mono ?_
      rintro e w31 ⟨rfl, R32, hp, hf⟩
      have HP9 := Lib.hid hp
      have HF9 := Lib.hid (HF8.out.trans hf)
      clear HP8 HF8 hp hf NC 
      obtain ⟨z, s33, hm, h⟩ := bind_out HM.out
      have NC := Lib.hid (EX _ _ _ _ _ hm HP9.out)
      replace HM := Lib.hid h
      clear h hm
      go_wp2_with fail
      refine NC.out.mono ?_
      rintro e w34 ⟨rfl, R35, hp, hf⟩
      have HP10 := Lib.hid hp
      have HF10 := Lib.hid (HF9.out.trans hf)
      clear HP9 HF9 hp hf NC 
      obtain ⟨s36, e1, h⟩ := mod_out HM.out
      have NC := Lib.hid (must_q HP10.out ({ data := #[59] }) e1)
      replace HM := Lib.hid h
      clear h e1
      go_wp2_with fail
      refine NC.out.mono ?_
      rintro e w37 ⟨rfl, R38, hp, hf⟩
      have HP11 := Lib.hid hp
      have HF11 := Lib.hid (HF10.out.trans hf)
      clear HP10 HF10 hp hf NC 
      have NC := Lib.hid ((putC P src T).two HP11.out (12) (ln) (0) (x) y z HM.out)
      go_wp2_with fail
      refine NC.out.mono ?_
      rintro e w39 ⟨rfl, R40, hp, hf⟩
      have HP12 := Lib.hid hp
      have HF12 := Lib.hid (HF11.out.trans hf)
      clear HP11 HF11 hp hf NC 
      go_wp2_with fail
      go_ret
      exact ⟨rfl, _, HP12.out, HF12.out⟩
    | false =>
      have h := HM.out
      rw [if_neg (by decide)] at h
      replace HM := Lib.hid h
      clear h
      go_wp2_with fail
      refine IC.out.mono ?_
      rintro e w41 ⟨rfl, k1⟩
      have HP3 := Lib.hid (HP2.out.keep k1)
      have HF3 := Lib.hid (HF2.out.keeps k1)
      clear HP2 HF2 IC k1 
      obtain ⟨s42, e1, h⟩ := mod_out HM.out
      have NC := Lib.hid (must_q HP3.out ({ data := #[61] }) e1)
      replace HM := Lib.hid h
      clear h e1
      go_wp2_with fail
      refine NC.out.mono ?_
      rintro e w43 ⟨rfl, R44, hp, hf⟩
      have HP4 := Lib.hid hp
      have HF4 := Lib.hid (HF3.out.trans hf)
      clear HP3 HF3 hp hf NC 
      obtain ⟨z, s45, hm, h⟩ := bind_out HM.out
      have NC := Lib.hid (RIGHT _ _ _ _ _ hm HP4.out)
      replace HM := Lib.hid h
      clear h hm
      go_wp2_with fail
      refine NC.out.mono ?_
      rintro e w46 ⟨rfl, R47, hp, hf⟩
      have HP5 := Lib.hid hp
      have HF5 := Lib.hid (HF4.out.trans hf)
      clear HP4 HF4 hp hf NC 
      obtain ⟨s48, e1, h⟩ := mod_out HM.out
      have NC := Lib.hid (must_q HP5.out ({ data := #[59] }) e1)
      replace HM := Lib.hid h
      clear h e1
      go_wp2_with fail
      refine NC.out.mono ?_
      rintro e w49 ⟨rfl, R50, hp, hf⟩
      have HP6 := Lib.hid hp
      have HF6 := Lib.hid (HF5.out.trans hf)
      clear HP5 HF5 hp hf NC 
      have NC := Lib.hid ((putC P src T).one HP6.out (11) (ln) (0) (x) z HM.out)
      go_wp2_with fail
      refine NC.out.mono ?_
      rintro e w51 ⟨rfl, R52, hp, hf⟩
      have HP7 := Lib.hid hp
      have HF7 := Lib.hid (HF6.out.trans hf)
      clear HP6 HF6 hp hf NC 
      go_wp2_with fail
      go_ret
      exact ⟨rfl, _, HP7.out, HF7.out⟩
end Go.Proofs.YtgelggdgbmldiaaDoor
