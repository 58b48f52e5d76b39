/-
  Layer 2: the document's reader: typed, statement. Written by an AI agent.
  Layer 2: the document's reader: block. Written by an AI agent.
-/
import Derived.Test.YtgelggdgbmldiaaDoorMkbb
namespace Go.Proofs.YtgelggdgbmldiaaDoor
open Go Go.RowKit Go.Shelf
set_option linter.unusedVariables false
set_option linter.unusedSimpArgs false
theorem row_of_two (w : World) (a b : Int) : (w.alloc (.cells #[.int .i64 a, .int .i64 b] 3)).ownsRow 0 3 1 (.slice (some ⟨w.heap.size, 0, none⟩) 2 2) 2 (valI [a, b]) :=
  ⟨by simp [valI], .inr ⟨w.heap.size, 2, #[.int .i64 a, .int .i64 b], rfl, Nat.zero_le _, heap_alloc_new w _, Nat.le_refl _, by decide, rfl, by simp [valI]⟩⟩
set_option maxRecDepth 100000 in
set_option maxHeartbeats 16000000 in
theorem typed_any {P : Nat} {src : ByteArray} {T : List Tok} : RexC P src T 62 (typedM T) := by
  intro s r s' R w h hp
  have HP0 := Lib.hid hp
  have HF0 := Lib.hid (Fr.refl R w)
  have HLO := Lib.hid hp.lo
  have HM := Lib.hid h
  clear h hp
  go_enter Tryd.func62, Tryd.ntmps62
  obtain ⟨wd, hw, h⟩ := ask_out HM.out
  have NC := Lib.hid (rwd_q HP0.out hw)
  replace HM := Lib.hid h
  clear h hw
  go_wp2_with fail
  refine NC.out.mono ?_
  rintro e w1 ⟨rfl, k1⟩
  have HP1 := Lib.hid (HP0.out.keep k1)
  have HF1 := Lib.hid (HF0.out.keeps k1)
  clear HP0 HF0 NC k1 
  obtain ⟨ty, hty⟩ : ∃ ty, ty = typeN wd := ⟨_, rfl⟩
  have NC := Lib.hid (rtype_q wd w1 hty)
  have h := HM.out
  rw [← hty] at h
  replace HM := Lib.hid h
  clear h hty
  go_wp2_with fail
  refine NC.out.mono ?_
  rintro e w2 ⟨rfl, k1⟩
  have HP2 := Lib.hid (HP1.out.keep k1)
  have HF2 := Lib.hid (HF1.out.keeps k1)
  clear HP1 HF1 NC k1 
  by_cases h0 : ty = 0
  · have h := HM.out
    rw [if_pos h0] at h
    replace HM := Lib.hid h
    clear h
    subst h0
    obtain ⟨s3, e1, h⟩ := mod_out HM.out
    have NC := Lib.hid (fails_q HP2.out 20 e1)
    replace HM := Lib.hid h
    clear h e1
    go_wp2_with fail
    refine NC.out.mono ?_
    rintro e w4 ⟨rfl, R5, hp, hf⟩
    have HP3 := Lib.hid hp
    have HF3 := Lib.hid (HF2.out.trans hf)
    clear HP2 HF2 hp hf NC 
    obtain ⟨q1, q2⟩ := pure_end HM.out
    subst q1
    subst q2
    go_wp2_with fail
    go_ret
    exact ⟨rfl, _, HP3.out, HF3.out⟩
  · have h := HM.out
    rw [if_neg h0] at h
    replace HM := Lib.hid h
    clear h
    have hd : (ty == 0) = false := by simpa using h0
    clear h0
    obtain ⟨u, s6, hm, h⟩ := bind_out HM.out
    obtain ⟨hi, e1⟩ := go_out hm
    replace HM := Lib.hid h
    obtain ⟨ew, c2, f2, hp, hf⟩ := HP2.out.stepAt hi
    have HP3 : Hid (Red (w2.setCell ⟨P, 2, none⟩ (.int .i64 ((s.i : Int) + 1))) P src T R s6) := Lib.hid (by rw [e1]; exact hp)
    have HF3 := Lib.hid (HF2.out.trans hf)
    clear h hm e1 hi hp hf HP2 HF2
    generalize (s.i : Int) = ii at *
    go_upto_region 7 with fail
    generalize w2.setCell ⟨P, 2, none⟩ (.int .i64 (ii + 1)) = w7 at *
    clear c2 f2 ew
    clear hd
    obtain ⟨q1, q2⟩ := pure_end HM.out
    subst q1
    subst q2
    go_wp2_with fail
    go_ret
    exact ⟨rfl, _, HP3.out, HF3.out⟩
set_option maxRecDepth 100000 in
set_option maxHeartbeats 16000000 in
theorem rstatement_any {P : Nat} {src : ByteArray} {T : List Tok} {N : Nat} {ex bl : PM Int} (hsz : src.size ≤ 1000) (EX : RexC P src T 119 ex) (BL : RexC P src T 63 bl) (CALL : RexC P src T 133 (rcallM src.data.toList T N ex)) (RIGHT : RexC P src T 118 (rrightM src.data.toList T N ex)) : RexC P src T 97 (rstatementM src.data.toList T N ex bl) := by
  intro s r s' R w h hp
  obtain ⟨i0, hi0, hz0, hz1, hz2⟩ := info_parts info_int
  have HP0 := Lib.hid hp
  have HF0 := Lib.hid (Fr.refl R w)
  have HLO := Lib.hid hp.lo
  have HM := Lib.hid h
  clear h hp
  go_enter Tryd.func97, Tryd.ntmps97
  obtain ⟨ln, hln, h⟩ := ask_out HM.out
  have LC := Lib.hid (rline_q hsz HP0.out hln)
  replace HM := Lib.hid h
  clear h hln
  go_wp2_with fail
  refine LC.out.mono ?_
  rintro e w1 ⟨rfl, k1⟩
  have HP1 := Lib.hid (HP0.out.keep k1)
  have HF1 := Lib.hid (HF0.out.keeps k1)
  clear HP0 HF0 LC k1 
  obtain ⟨wd, hw, h⟩ := ask_out HM.out
  have NC := Lib.hid (rwd_q HP1.out hw)
  replace HM := Lib.hid h
  clear h hw
  go_wp2_with fail
  refine NC.out.mono ?_
  rintro e w2 ⟨rfl, k1⟩
  have HP2 := Lib.hid (HP1.out.keep k1)
  have HF2 := Lib.hid (HF1.out.keeps k1)
  clear HP1 HF1 NC k1 
  have q0 : ((ofL wd).toList == [108, 101, 116]) = decide (wd = [108, 101, 116]) := by rw [word_beq, ofL_list]
  by_cases h0 : wd = [108, 101, 116]
  · have h := HM.out
    rw [if_pos h0] at h
    replace HM := Lib.hid h
    clear h
    rw [decide_eq_true h0] at q0
    clear h0
    go_upto_region 5 with fail
    clear q0 
    obtain ⟨u, s3, hm, h⟩ := bind_out HM.out
    obtain ⟨hi, e1⟩ := go_out hm
    replace HM := Lib.hid h
    obtain ⟨ew, c2, f2, hp, hf⟩ := HP2.out.stepAt hi
    have HP3 : Hid (Red (w2.setCell ⟨P, 2, none⟩ (.int .i64 ((s.i : Int) + 1))) P src T R s3) := Lib.hid (by rw [e1]; exact hp)
    have HF3 := Lib.hid (HF2.out.trans hf)
    clear h hm e1 hi hp hf HP2 HF2
    generalize (s.i : Int) = ii at *
    go_upto_region 6 with fail
    generalize w2.setCell ⟨P, 2, none⟩ (.int .i64 (ii + 1)) = w4 at *
    clear c2 f2 ew
    obtain ⟨x, ex, h⟩ := ask_out HM.out
    obtain ⟨s5, e1, h⟩ := mod_out h
    have NC := Lib.hid (rname_q HP3.out e1 ex)
    replace HM := Lib.hid h
    clear h e1 ex
    go_wp2_with fail
    refine NC.out.mono ?_
    rintro e w6 ⟨rfl, R7, hp, hf⟩
    have HP4 := Lib.hid hp
    have HF4 := Lib.hid (HF3.out.trans hf)
    clear HP3 HF3 hp hf NC 
    obtain ⟨s8, e1, h⟩ := mod_out HM.out
    have NC := Lib.hid (must_q HP4.out ({ data := #[61] }) e1)
    replace HM := Lib.hid h
    clear h e1
    go_wp2_with fail
    refine NC.out.mono ?_
    rintro e w9 ⟨rfl, R10, hp, hf⟩
    have HP5 := Lib.hid hp
    have HF5 := Lib.hid (HF4.out.trans hf)
    clear HP4 HF4 hp hf NC 
    obtain ⟨y, s11, hm, h⟩ := bind_out HM.out
    have NC := Lib.hid (RIGHT _ _ _ _ _ hm HP5.out)
    replace HM := Lib.hid h
    clear h hm
    go_wp2_with fail
    refine NC.out.mono ?_
    rintro e w12 ⟨rfl, R13, hp, hf⟩
    have HP6 := Lib.hid hp
    have HF6 := Lib.hid (HF5.out.trans hf)
    clear HP5 HF5 hp hf NC 
    obtain ⟨s14, e1, h⟩ := mod_out HM.out
    have NC := Lib.hid (must_q HP6.out ({ data := #[59] }) e1)
    replace HM := Lib.hid h
    clear h e1
    go_wp2_with fail
    refine NC.out.mono ?_
    rintro e w15 ⟨rfl, R16, hp, hf⟩
    have HP7 := Lib.hid hp
    have HF7 := Lib.hid (HF6.out.trans hf)
    clear HP6 HF6 hp hf NC 
    have NC := Lib.hid ((putC P src T).one HP7.out (10) (ln) (0) (x) y HM.out)
    go_wp2_with fail
    refine NC.out.mono ?_
    rintro e w17 ⟨rfl, R18, hp, hf⟩
    have HP8 := Lib.hid hp
    have HF8 := Lib.hid (HF7.out.trans hf)
    clear HP7 HF7 hp hf NC 
    go_wp2_with fail
    go_ret
    exact ⟨rfl, _, HP8.out, HF8.out⟩
  · have h := HM.out
    rw [if_neg h0] at h
    replace HM := Lib.hid h
    clear h
    rw [decide_eq_false h0] at q0
    clear h0
    have q1 : ((ofL wd).toList == [112, 114, 105, 110, 116]) = decide (wd = [112, 114, 105, 110, 116]) := by rw [word_beq, ofL_list]
    by_cases h1 : wd = [112, 114, 105, 110, 116]
    · have h := HM.out
      rw [if_pos h1] at h
      replace HM := Lib.hid h
      clear h
      rw [decide_eq_true h1] at q1
      clear h1
      go_upto_region 12 with fail
      clear q1 q0
      obtain ⟨u, s19, hm, h⟩ := bind_out HM.out
      obtain ⟨hi, e1⟩ := go_out hm
      replace HM := Lib.hid h
      obtain ⟨ew, c2, f2, hp, hf⟩ := HP2.out.stepAt hi
      have HP3 : Hid (Red (w2.setCell ⟨P, 2, none⟩ (.int .i64 ((s.i : Int) + 1))) P src T R s19) := Lib.hid (by rw [e1]; exact hp)
      have HF3 := Lib.hid (HF2.out.trans hf)
      clear h hm e1 hi hp hf HP2 HF2
      generalize (s.i : Int) = ii at *
      go_upto_region 13 with fail
      generalize w2.setCell ⟨P, 2, none⟩ (.int .i64 (ii + 1)) = w20 at *
      clear c2 f2 ew
      obtain ⟨x, s21, hm, h⟩ := bind_out HM.out
      have NC := Lib.hid (EX _ _ _ _ _ hm HP3.out)
      replace HM := Lib.hid h
      clear h hm
      go_wp2_with fail
      refine NC.out.mono ?_
      rintro e w22 ⟨rfl, R23, hp, hf⟩
      have HP4 := Lib.hid hp
      have HF4 := Lib.hid (HF3.out.trans hf)
      clear HP3 HF3 hp hf NC 
      obtain ⟨s24, e1, h⟩ := mod_out HM.out
      have NC := Lib.hid (must_q HP4.out ({ data := #[59] }) e1)
      replace HM := Lib.hid h
      clear h e1
      go_wp2_with fail
      refine NC.out.mono ?_
      rintro e w25 ⟨rfl, R26, hp, hf⟩
      have HP5 := Lib.hid hp
      have HF5 := Lib.hid (HF4.out.trans hf)
      clear HP4 HF4 hp hf NC 
      have NC := Lib.hid ((putC P src T).one HP5.out (14) (ln) (0) ([]) x HM.out)
      go_wp2_with fail
      refine NC.out.mono ?_
      rintro e w27 ⟨rfl, R28, hp, hf⟩
      have HP6 := Lib.hid hp
      have HF6 := Lib.hid (HF5.out.trans hf)
      clear HP5 HF5 hp hf NC 
      go_wp2_with fail
      go_ret
      exact ⟨rfl, _, HP6.out, HF6.out⟩
    · have h := HM.out
      rw [if_neg h1] at h
      replace HM := Lib.hid h
      clear h
      rw [decide_eq_false h1] at q1
      clear h1
      have q2 : ((ofL wd).toList == [119, 104, 105, 108, 101]) = decide (wd = [119, 104, 105, 108, 101]) := by rw [word_beq, ofL_list]
      by_cases h2 : wd = [119, 104, 105, 108, 101]
      · have h := HM.out
        rw [if_pos h2] at h
        replace HM := Lib.hid h
        clear h
        rw [decide_eq_true h2] at q2
        clear h2
        go_upto_region 17 with fail
        clear q2 q0 q1
        obtain ⟨u, s29, hm, h⟩ := bind_out HM.out
        obtain ⟨hi, e1⟩ := go_out hm
        replace HM := Lib.hid h
        obtain ⟨ew, c2, f2, hp, hf⟩ := HP2.out.stepAt hi
        have HP3 : Hid (Red (w2.setCell ⟨P, 2, none⟩ (.int .i64 ((s.i : Int) + 1))) P src T R s29) := Lib.hid (by rw [e1]; exact hp)
        have HF3 := Lib.hid (HF2.out.trans hf)
        clear h hm e1 hi hp hf HP2 HF2
        generalize (s.i : Int) = ii at *
        go_upto_region 18 with fail
        generalize w2.setCell ⟨P, 2, none⟩ (.int .i64 (ii + 1)) = w30 at *
        clear c2 f2 ew
        obtain ⟨x, s31, hm, h⟩ := bind_out HM.out
        have NC := Lib.hid (EX _ _ _ _ _ hm HP3.out)
        replace HM := Lib.hid h
        clear h hm
        go_wp2_with fail
        refine NC.out.mono ?_
        rintro e w32 ⟨rfl, R33, hp, hf⟩
        have HP4 := Lib.hid hp
        have HF4 := Lib.hid (HF3.out.trans hf)
        clear HP3 HF3 hp hf NC 
        obtain ⟨y, s34, hm, h⟩ := bind_out HM.out
        have NC := Lib.hid (BL _ _ _ _ _ hm HP4.out)
        replace HM := Lib.hid h
        clear h hm
        go_wp2_with fail
        refine NC.out.mono ?_
        rintro e w35 ⟨rfl, R36, hp, hf⟩
        have HP5 := Lib.hid hp
        have HF5 := Lib.hid (HF4.out.trans hf)
        clear HP4 HF4 hp hf NC 
        have NC := Lib.hid ((putC P src T).two HP5.out (16) (ln) (0) ([]) x y HM.out)
        go_wp2_with fail
        refine NC.out.mono ?_
        rintro e w37 ⟨rfl, R38, hp, hf⟩
        have HP6 := Lib.hid hp
        have HF6 := Lib.hid (HF5.out.trans hf)
        clear HP5 HF5 hp hf NC 
        go_wp2_with fail
        go_ret
        exact ⟨rfl, _, HP6.out, HF6.out⟩
      · have h := HM.out
        rw [if_neg h2] at h
        replace HM := Lib.hid h
        clear h
        rw [decide_eq_false h2] at q2
        clear h2
        have q3 : ((ofL wd).toList == [105, 102]) = decide (wd = [105, 102]) := by rw [word_beq, ofL_list]
        by_cases h3 : wd = [105, 102]
        · have h := HM.out
          rw [if_pos h3] at h
          replace HM := Lib.hid h
          clear h
          rw [decide_eq_true h3] at q3
          clear h3
          go_upto_region 22 with fail
          clear q3 q0 q1 q2
          obtain ⟨u, s39, hm, h⟩ := bind_out HM.out
          obtain ⟨hi, e1⟩ := go_out hm
          replace HM := Lib.hid h
          obtain ⟨ew, c2, f2, hp, hf⟩ := HP2.out.stepAt hi
          have HP3 : Hid (Red (w2.setCell ⟨P, 2, none⟩ (.int .i64 ((s.i : Int) + 1))) P src T R s39) := Lib.hid (by rw [e1]; exact hp)
          have HF3 := Lib.hid (HF2.out.trans hf)
          clear h hm e1 hi hp hf HP2 HF2
          generalize (s.i : Int) = ii at *
          go_upto_region 23 with fail
          generalize w2.setCell ⟨P, 2, none⟩ (.int .i64 (ii + 1)) = w40 at *
          clear c2 f2 ew
          obtain ⟨x, s41, hm, h⟩ := bind_out HM.out
          have NC := Lib.hid (EX _ _ _ _ _ hm HP3.out)
          replace HM := Lib.hid h
          clear h hm
          go_wp2_with fail
          refine NC.out.mono ?_
          rintro e w42 ⟨rfl, R43, hp, hf⟩
          have HP4 := Lib.hid hp
          have HF4 := Lib.hid (HF3.out.trans hf)
          clear HP3 HF3 hp hf NC 
          obtain ⟨y, s44, hm, h⟩ := bind_out HM.out
          have NC := Lib.hid (BL _ _ _ _ _ hm HP4.out)
          replace HM := Lib.hid h
          clear h hm
          go_wp2_with fail
          refine NC.out.mono ?_
          rintro e w45 ⟨rfl, R46, hp, hf⟩
          have HP5 := Lib.hid hp
          have HF5 := Lib.hid (HF4.out.trans hf)
          clear HP4 HF4 hp hf NC 
          go_upto_region 26 with fail
          have ka := Keeps.one w45 (.cells #[.int .i64 x, .int .i64 y] 3)
          obtain ⟨B48, hB⟩ : ∃ B48, B48 = w45.heap.size := ⟨_, rfl⟩
          obtain ⟨w47, hw⟩ : ∃ w47, w47 = w45.alloc (.cells #[.int .i64 x, .int .i64 y] 3) := ⟨_, rfl⟩
          have HB6 : Hid (w47.ownsRow 0 3 1 (.slice (some ⟨B48, 0, none⟩) 2 2) 2 (valI [x, y]) ∧ ∀ g, (Value.slice (some ⟨B48, 0, none⟩) 2 2).ownBlock = some g → ¬ R46 g ∧ w.heap.size ≤ g) := Lib.hid ⟨by rw [hw, hB]; exact row_of_two w45 x y, fun g hg => by cases hg; rw [hB]; exact ⟨HP5.out.new, HF5.out.1.size⟩⟩
          rw [← hB]
          rw [← hw] at ka ⊢
          have HP6 := Lib.hid (HP5.out.keep ka)
          have HF6 := Lib.hid (HF5.out.keeps ka)
          clear HP5 HF5 ka hw hB
          obtain ⟨b, hb, h⟩ := ask_out HM.out
          have IC := Lib.hid (ris_q HP6.out ({ data := #[101, 108, 115, 101] }) hb)
          replace HM := Lib.hid h
          clear h hb
          cases b with
          | true =>
            have h := HM.out
            rw [if_pos rfl] at h
            replace HM := Lib.hid h
            clear h
            go_wp2_with fail
            refine IC.out.mono ?_
            rintro e w49 ⟨rfl, k1⟩
            have HP7 := Lib.hid (HP6.out.keep k1)
            have HF7 := Lib.hid (HF6.out.keeps k1)
            have HB7 := Lib.hid (own_keep HB6.out.1 ((Fr.refl R46 w47).keeps k1) HB6.out.2)
            clear HP6 HF6 HB6 IC k1 
            obtain ⟨u, s50, hm, h⟩ := bind_out HM.out
            obtain ⟨hi, e1⟩ := go_out hm
            replace HM := Lib.hid h
            obtain ⟨ew, c2, f2, hp, hf⟩ := HP7.out.stepAt hi
            have HP8 : Hid (Red (w49.setCell ⟨P, 2, none⟩ (.int .i64 ((s44.i : Int) + 1))) P src T R46 s50) := Lib.hid (by rw [e1]; exact hp)
            have HF8 := Lib.hid (HF7.out.trans hf)
            have HB8 := Lib.hid (own_keep HB7.out.1 hf HB7.out.2)
            clear h hm e1 hi hp hf HP7 HF7 HB7
            generalize (s44.i : Int) = ii at *
            go_upto_region 29 with fail
            generalize w49.setCell ⟨P, 2, none⟩ (.int .i64 (ii + 1)) = w51 at *
            clear c2 f2 ew
            obtain ⟨z, s52, hm, h⟩ := bind_out HM.out
            have NC := Lib.hid (BL _ _ _ _ _ hm HP8.out)
            replace HM := Lib.hid h
            clear h hm
            go_wp2_with fail
            refine NC.out.mono ?_
            rintro e w53 ⟨rfl, R54, hp, hf⟩
            have HP9 := Lib.hid hp
            have HF9 := Lib.hid (HF8.out.trans hf)
            have HB9 := Lib.hid (own_keep HB8.out.1 hf HB8.out.2)
            clear HP8 HF8 HB8 hp hf NC 
            go_wp2_with (at_builtin; refine wpList_append_atk rfl (.tmp 111) (.tmp 113) 31 rfl 0 3 i0 _ 1 8 Tryd.underlying31 hi0 hz0 hz1 hz2 (by rfl) (by omega) (.slice (some ⟨B48, 0, none⟩) 2 2) (2) (valI [x, y]) (by rfl) (ownsRow_keep HB9.out.1 (fun g hg => (Keeps.one w53 _).block g (own_ltk HB9.out.1 hg) (fun h => h))) ⟨w53.heap.size, 0, none⟩ 1 1 (valI [z]) (by rfl) (by rfl) (newsI z _) (valI_one _) (by omega) (by omega) (Nat.zero_le _) ?_; intro v5 w55 h5 g5 b5; obtain ⟨A56, c57, rfl⟩ := own_formk h5; have hmm := own_moreR HP9.out HF9.out HLO.out HB9.out.2 (Keeps.one w53 (.cells #[.int .i64 z] 3)) g5 b5; have HP10 := Lib.hid hmm.1; have HF10 := Lib.hid hmm.2.1; have HB10 : Hid (w55.ownsRow 0 3 1 (.slice A56 (2 + 1) c57) (2 + 1) (valI [x, y, z]) ∧ ∀ g, (Value.slice A56 (2 + 1) c57).ownBlock = some g → ¬ R54 g ∧ w.heap.size ≤ g) := Lib.hid (And.intro (row_app h5) hmm.2.2.1); clear hmm h5 g5 b5 HP9 HF9 HB9)
            have NC := Lib.hid ((putC P src T).row HP10.out (15) (ln) (0) ([]) [x, y, z] (rfl) HB10.out.1 HF10.out HLO.out HB10.out.2 HM.out)
            go_wp2_with fail
            refine NC.out.mono ?_
            rintro e w58 ⟨rfl, R59, hp, hf⟩
            have HZ : Hid (∃ R', Red w58 P src T R' s' ∧ Fr R w R' w58) := Lib.hid ⟨_, hp, hf⟩
            clear hp hf NC 
            go_wp2_with fail
            go_ret
            exact ⟨rfl, HZ.out⟩
          | false =>
            have h := HM.out
            rw [if_neg (by decide)] at h
            replace HM := Lib.hid h
            clear h
            go_wp2_with fail
            refine IC.out.mono ?_
            rintro e w60 ⟨rfl, k1⟩
            have HP7 := Lib.hid (HP6.out.keep k1)
            have HF7 := Lib.hid (HF6.out.keeps k1)
            have HB7 := Lib.hid (own_keep HB6.out.1 ((Fr.refl R46 w47).keeps k1) HB6.out.2)
            clear HP6 HF6 HB6 IC k1 
            have NC := Lib.hid ((putC P src T).row HP7.out (15) (ln) (0) ([]) [x, y] (rfl) HB7.out.1 HF7.out HLO.out HB7.out.2 HM.out)
            go_wp2_with fail
            refine NC.out.mono ?_
            rintro e w61 ⟨rfl, R62, hp, hf⟩
            have HZ : Hid (∃ R', Red w61 P src T R' s' ∧ Fr R w R' w61) := Lib.hid ⟨_, hp, hf⟩
            clear hp hf NC 
            go_wp2_with fail
            go_ret
            exact ⟨rfl, HZ.out⟩
        · have h := HM.out
          rw [if_neg h3] at h
          replace HM := Lib.hid h
          clear h
          rw [decide_eq_false h3] at q3
          clear h3
          have q4 : ((ofL wd).toList == [114, 101, 116, 117, 114, 110]) = decide (wd = [114, 101, 116, 117, 114, 110]) := by rw [word_beq, ofL_list]
          by_cases h4 : wd = [114, 101, 116, 117, 114, 110]
          · have h := HM.out
            rw [if_pos h4] at h
            replace HM := Lib.hid h
            clear h
            rw [decide_eq_true h4] at q4
            clear h4
            go_upto_region 33 with fail
            clear q4 q0 q1 q2 q3
            obtain ⟨u, s63, hm, h⟩ := bind_out HM.out
            obtain ⟨hi, e1⟩ := go_out hm
            replace HM := Lib.hid h
            obtain ⟨ew, c2, f2, hp, hf⟩ := HP2.out.stepAt hi
            have HP3 : Hid (Red (w2.setCell ⟨P, 2, none⟩ (.int .i64 ((s.i : Int) + 1))) P src T R s63) := Lib.hid (by rw [e1]; exact hp)
            have HF3 := Lib.hid (HF2.out.trans hf)
            clear h hm e1 hi hp hf HP2 HF2
            generalize (s.i : Int) = ii at *
            go_upto_region 34 with fail
            generalize w2.setCell ⟨P, 2, none⟩ (.int .i64 (ii + 1)) = w64 at *
            clear c2 f2 ew
            go_upto_region 35 with fail
            have ka := Keeps.one w64 (.cells #[] 3)
            obtain ⟨B66, hB⟩ : ∃ B66, B66 = w64.heap.size := ⟨_, rfl⟩
            obtain ⟨w65, hw⟩ : ∃ w65, w65 = w64.alloc (.cells #[] 3) := ⟨_, rfl⟩
            have HB4 : Hid (w65.ownsRow 0 3 1 (.slice (some ⟨B66, 0, none⟩) 0 0) 0 (valI []) ∧ ∀ g, (Value.slice (some ⟨B66, 0, none⟩) 0 0).ownBlock = some g → ¬ R g ∧ w.heap.size ≤ g) := Lib.hid ⟨by rw [hw, hB]; exact World.ownsRow_made w64 #[] 0 (Nat.zero_le _) (by decide) rfl, fun g hg => by cases hg; rw [hB]; exact ⟨HP3.out.new, HF3.out.1.size⟩⟩
            rw [← hB]
            rw [← hw] at ka ⊢
            have HP4 := Lib.hid (HP3.out.keep ka)
            have HF4 := Lib.hid (HF3.out.keeps ka)
            clear HP3 HF3 ka hw hB
            obtain ⟨b, hb, h⟩ := ask_out HM.out
            have IC := Lib.hid (ris_q HP4.out ({ data := #[59] }) hb)
            replace HM := Lib.hid h
            clear h hb
            cases b with
            | true =>
              have h := HM.out
              rw [if_pos rfl] at h
              replace HM := Lib.hid h
              clear h
              go_wp2_with fail
              refine IC.out.mono ?_
              rintro e w67 ⟨rfl, k1⟩
              have HP5 := Lib.hid (HP4.out.keep k1)
              have HF5 := Lib.hid (HF4.out.keeps k1)
              have HB5 := Lib.hid (own_keep HB4.out.1 ((Fr.refl R w65).keeps k1) HB4.out.2)
              clear HP4 HF4 HB4 IC k1 
              obtain ⟨s68, e1, h⟩ := mod_out HM.out
              have NC := Lib.hid (must_q HP5.out ({ data := #[59] }) e1)
              replace HM := Lib.hid h
              clear h e1
              go_wp2_with fail
              refine NC.out.mono ?_
              rintro e w69 ⟨rfl, R70, hp, hf⟩
              have HP6 := Lib.hid hp
              have HF6 := Lib.hid (HF5.out.trans hf)
              have HB6 := Lib.hid (own_keep HB5.out.1 hf HB5.out.2)
              clear HP5 HF5 HB5 hp hf NC 
              have NC := Lib.hid ((putC P src T).row HP6.out (17) (ln) (0) ([]) [] (rfl) HB6.out.1 HF6.out HLO.out HB6.out.2 HM.out)
              go_wp2_with fail
              refine NC.out.mono ?_
              rintro e w71 ⟨rfl, R72, hp, hf⟩
              have HZ : Hid (∃ R', Red w71 P src T R' s' ∧ Fr R w R' w71) := Lib.hid ⟨_, hp, hf⟩
              clear hp hf NC 
              go_wp2_with fail
              go_ret
              exact ⟨rfl, HZ.out⟩
            | false =>
              have h := HM.out
              rw [if_neg (by decide)] at h
              replace HM := Lib.hid h
              clear h
              go_wp2_with fail
              refine IC.out.mono ?_
              rintro e w73 ⟨rfl, k1⟩
              have HP5 := Lib.hid (HP4.out.keep k1)
              have HF5 := Lib.hid (HF4.out.keeps k1)
              have HB5 := Lib.hid (own_keep HB4.out.1 ((Fr.refl R w65).keeps k1) HB4.out.2)
              clear HP4 HF4 HB4 IC k1 
              obtain ⟨x, s74, hm, h⟩ := bind_out HM.out
              have NC := Lib.hid (EX _ _ _ _ _ hm HP5.out)
              replace HM := Lib.hid h
              clear h hm
              go_wp2_with fail
              refine NC.out.mono ?_
              rintro e w75 ⟨rfl, R76, hp, hf⟩
              have HP6 := Lib.hid hp
              have HF6 := Lib.hid (HF5.out.trans hf)
              have HB6 := Lib.hid (own_keep HB5.out.1 hf HB5.out.2)
              clear HP5 HF5 HB5 hp hf NC 
              go_wp2_with (at_builtin; refine wpList_append_atk rfl (.tmp 135) (.tmp 137) 31 rfl 0 3 i0 _ 1 8 Tryd.underlying31 hi0 hz0 hz1 hz2 (by rfl) (by omega) (.slice (some ⟨B66, 0, none⟩) 0 0) (0) (valI []) (by rfl) (ownsRow_keep HB6.out.1 (fun g hg => (Keeps.one w75 _).block g (own_ltk HB6.out.1 hg) (fun h => h))) ⟨w75.heap.size, 0, none⟩ 1 1 (valI [x]) (by rfl) (by rfl) (newsI x _) (valI_one _) (by omega) (by omega) (Nat.zero_le _) ?_; intro v5 w77 h5 g5 b5; obtain ⟨A78, c79, rfl⟩ := own_formk h5; have hmm := own_moreR HP6.out HF6.out HLO.out HB6.out.2 (Keeps.one w75 (.cells #[.int .i64 x] 3)) g5 b5; have HP7 := Lib.hid hmm.1; have HF7 := Lib.hid hmm.2.1; have HB7 : Hid (w77.ownsRow 0 3 1 (.slice A78 (0 + 1) c79) (0 + 1) (valI [x]) ∧ ∀ g, (Value.slice A78 (0 + 1) c79).ownBlock = some g → ¬ R76 g ∧ w.heap.size ≤ g) := Lib.hid (And.intro (row_app h5) hmm.2.2.1); clear hmm h5 g5 b5 HP6 HF6 HB6)
              obtain ⟨s80, e1, h⟩ := mod_out HM.out
              have NC := Lib.hid (must_q HP7.out ({ data := #[59] }) e1)
              replace HM := Lib.hid h
              clear h e1
              go_wp2_with fail
              refine NC.out.mono ?_
              rintro e w81 ⟨rfl, R82, hp, hf⟩
              have HP8 := Lib.hid hp
              have HF8 := Lib.hid (HF7.out.trans hf)
              have HB8 := Lib.hid (own_keep HB7.out.1 hf HB7.out.2)
              clear HP7 HF7 HB7 hp hf NC 
              have NC := Lib.hid ((putC P src T).row HP8.out (17) (ln) (0) ([]) [x] (rfl) HB8.out.1 HF8.out HLO.out HB8.out.2 HM.out)
              go_wp2_with fail
              refine NC.out.mono ?_
              rintro e w83 ⟨rfl, R84, hp, hf⟩
              have HZ : Hid (∃ R', Red w83 P src T R' s' ∧ Fr R w R' w83) := Lib.hid ⟨_, hp, hf⟩
              clear hp hf NC 
              go_wp2_with fail
              go_ret
              exact ⟨rfl, HZ.out⟩
          · have h := HM.out
            rw [if_neg h4] at h
            replace HM := Lib.hid h
            clear h
            rw [decide_eq_false h4] at q4
            clear h4
            have NC := Lib.hid (rnamed_any EX CALL RIGHT ln _ _ _ _ _ HM.out HP2.out)
            go_wp2_with fail
            refine NC.out.mono ?_
            rintro e w85 ⟨rfl, R86, hp, hf⟩
            have HP3 := Lib.hid hp
            have HF3 := Lib.hid (HF2.out.trans hf)
            clear HP2 HF2 hp hf NC q0 q1 q2 q3 q4
            go_wp2_with fail
            go_ret
            exact ⟨rfl, _, HP3.out, HF3.out⟩
end Go.Proofs.YtgelggdgbmldiaaDoor

namespace Go.Proofs.YtgelggdgbmldiaaDoor
open Go Go.RowKit Go.Shelf
set_option linter.unusedVariables false
set_option linter.unusedSimpArgs false
set_option maxRecDepth 100000 in
set_option maxHeartbeats 16000000 in
theorem rblock_any {P : Nat} {src : ByteArray} {T : List Tok} {N : Nat} {st : PM Int} (hsz : src.size ≤ 1000) (hN : N ≤ 100000) (ST : RexC P src T 97 st) : RexC P src T 63 (rblockM src.data.toList T N st) := by
  intro s r s' R w h hp
  obtain ⟨i0, hi0, hz0, hz1, hz2⟩ := info_parts info_int
  have HP0 := Lib.hid hp
  have HF0 := Lib.hid (Fr.refl R w)
  have HLO := Lib.hid hp.lo
  have HM := Lib.hid h
  clear h hp
  go_enter Tryd.func63, Tryd.ntmps63
  obtain ⟨ln, hln, h⟩ := ask_out HM.out
  have LC := Lib.hid (rline_q hsz HP0.out hln)
  replace HM := Lib.hid h
  clear h hln
  go_wp2_with fail
  refine LC.out.mono ?_
  rintro e w1 ⟨rfl, k1⟩
  have HP1 := Lib.hid (HP0.out.keep k1)
  have HF1 := Lib.hid (HF0.out.keeps k1)
  clear HP0 HF0 LC k1 
  obtain ⟨b, hb, h⟩ := ask_out HM.out
  have IC := Lib.hid (ris_q HP1.out ({ data := #[123] }) hb)
  replace HM := Lib.hid h
  clear h hb
  cases b with
  | true =>
    have h := HM.out
    rw [if_pos rfl] at h
    replace HM := Lib.hid h
    clear h
    go_wp2_with fail
    refine IC.out.mono ?_
    rintro e w2 ⟨rfl, k1⟩
    have HP2 := Lib.hid (HP1.out.keep k1)
    have HF2 := Lib.hid (HF1.out.keeps k1)
    clear HP1 HF1 IC k1 
    obtain ⟨u, s3, hm, h⟩ := bind_out HM.out
    have NC := Lib.hid (rdown_any HP2.out hm)
    replace HM := Lib.hid h
    clear h hm
    go_wp2_with fail
    refine NC.out.mono ?_
    rintro e w4 ⟨rfl, R5, hp, hf⟩
    have HP3 := Lib.hid hp
    have HF3 := Lib.hid (HF2.out.trans hf)
    clear HP2 HF2 hp hf NC 
    obtain ⟨s6, e1, h⟩ := mod_out HM.out
    have NC := Lib.hid (must_q HP3.out ({ data := #[123] }) e1)
    replace HM := Lib.hid h
    clear h e1
    go_wp2_with fail
    refine NC.out.mono ?_
    rintro e w7 ⟨rfl, R8, hp, hf⟩
    have HP4 := Lib.hid hp
    have HF4 := Lib.hid (HF3.out.trans hf)
    clear HP3 HF3 hp hf NC 
    go_upto_region 9 with fail
    have ka := Keeps.one w7 (.cells #[] 3)
    obtain ⟨B10, hB⟩ : ∃ B10, B10 = w7.heap.size := ⟨_, rfl⟩
    obtain ⟨w9, hw⟩ : ∃ w9, w9 = w7.alloc (.cells #[] 3) := ⟨_, rfl⟩
    have HB5 : Hid (w9.ownsRow 0 3 1 (.slice (some ⟨B10, 0, none⟩) 0 0) 0 (valI []) ∧ ∀ g, (Value.slice (some ⟨B10, 0, none⟩) 0 0).ownBlock = some g → ¬ R8 g ∧ w.heap.size ≤ g) := Lib.hid ⟨by rw [hw, hB]; exact World.ownsRow_made w7 #[] 0 (Nat.zero_le _) (by decide) rfl, fun g hg => by cases hg; rw [hB]; exact ⟨HP4.out.new, HF4.out.1.size⟩⟩
    rw [← hB]
    rw [← hw] at ka ⊢
    have HP5 := Lib.hid (HP4.out.keep ka)
    have HF5 := Lib.hid (HF4.out.keeps ka)
    clear HP4 HF4 ka hw hB
    obtain ⟨L, sL, hm, h⟩ := bind_out HM.out
    have HA := Lib.hid hm
    replace HM := Lib.hid h
    clear h hm
    go_loopg [5, 6, 7] N (fun k s5 s6 s7 wr => ∃ (l : List Int) (A : Option Addr) (n c : Nat) (sk : PS) (Rk : Nat → Prop), s5 = .slice A n c ∧ n = l.length ∧ n + k ≤ N + 1 ∧ rstmsR T st k l sk = some (L, sL) ∧ Red wr P src T Rk sk ∧ Fr R w Rk wr ∧ (wr.ownsRow 0 3 1 (.slice A n c) n (valI l) ∧ ∀ g, (Value.slice A n c).ownBlock = some g → ¬ Rk g ∧ w.heap.size ≤ g))
    case atStart => exact ⟨[], _, 0, _, _, _, rfl, rfl, by omega, HA.out, HP5.out, HF5.out, HB5.out⟩
    case round =>
      obtain ⟨l, A, n, c, sk, Rk, rfl, hnl, hnk, hm, hp, hf, hb⟩ := hrel
      clear HP5 HF5 HB5 HA
      cases gk with
      | zero =>
        have h0 : (none : Option (List Int × PS)) = some (L, sL) := hm
        cases h0
      | succ k =>
        unfold rstmsR at hm
        have c5 := hp.see.c5
        obtain ⟨b, hb2, hm⟩ := ask_out hm
        have HP0 := Lib.hid hp
        have HF0 := Lib.hid hf
        have HB0 := Lib.hid hb
        have HA := Lib.hid hm
        have HNL := Lib.hid hnl
        have HNK := Lib.hid hnk
        have hn2 : n ≤ 100001 := by omega
        clear hp hf hb hm hnl hnk
        by_cases he : sk.er = 0
        · skip
          rw [he] at c5
          obtain ⟨b1, hb1⟩ : ∃ b1, b1 = isR T [125] sk := ⟨_, rfl⟩
          have hbb : b = !b1 := by rw [hb2, decide_eq_true he, hb1]; rfl
          subst hbb
          have IC := Lib.hid (ris_q HP0.out ({ data := #[125] }) hb1)
          clear hb1 he hb2
          cases b1 with
          | true =>
            go_wp2_with fail
            refine IC.out.mono ?_
            rintro e w11 ⟨rfl, k1⟩
            have HP1 := Lib.hid (HP0.out.keep k1)
            have HF1 := Lib.hid (HF0.out.keeps k1)
            have HB1 := Lib.hid (own_keep HB0.out.1 ((Fr.refl Rk wr).keeps k1) HB0.out.2)
            clear HP0 HF0 HB0 IC k1 c5
            go_upto_region 14 with fail
            have h := HA.out
            rw [if_neg (by decide)] at h
            obtain ⟨q1, q2⟩ := pure_end h
            subst q1
            subst q2
            clear HA h
            obtain ⟨s12, e1, h⟩ := mod_out HM.out
            have NC := Lib.hid (must_q HP1.out ({ data := #[125] }) e1)
            replace HM := Lib.hid h
            clear h e1
            go_wp2_with fail
            refine NC.out.mono ?_
            rintro e w13 ⟨rfl, R14, hp, hf⟩
            have HP2 := Lib.hid hp
            have HF2 := Lib.hid (HF1.out.trans hf)
            have HB2 := Lib.hid (own_keep HB1.out.1 hf HB1.out.2)
            clear HP1 HF1 HB1 hp hf NC 
            obtain ⟨u, s15, hm, h⟩ := bind_out HM.out
            obtain ⟨hd, e1⟩ := deep_out hm
            replace HM := Lib.hid h
            have hs := HP2.out.see
            have c4 := hs.c4
            have f4 := hs.fz 4
            have hw := IntWalk.i64_in (s12.dp - 1) (by omega)
            have hset := HP2.out.setDp (s12.dp - 1)
            have HP3 : Hid (Red (w13.setCell ⟨P, 4, none⟩ (.int .i64 (s12.dp - 1))) P src T R14 s15) := Lib.hid (by rw [e1]; exact hset.1)
            have HF3 := Lib.hid (HF2.out.trans hset.2)
            have HB3 := Lib.hid (own_keep HB2.out.1 hset.2 HB2.out.2)
            clear h hm e1 hs hset HP2 HF2 HB2
            generalize s12.dp = dp at *
            go_upto_region 16 with fail
            generalize w13.setCell ⟨P, 4, none⟩ (.int .i64 (dp - 1)) = w16 at *
            clear c4 f4 hw hd
            have NC := Lib.hid ((putC P src T).row HP3.out (18) (ln) (0) ([]) L (HNL.out) HB3.out.1 HF3.out HLO.out HB3.out.2 HM.out)
            go_wp2_with fail
            refine NC.out.mono ?_
            rintro e w17 ⟨rfl, R18, hp, hf⟩
            have HZ : Hid (∃ R', Red w17 P src T R' s' ∧ Fr R w R' w17) := Lib.hid ⟨_, hp, hf⟩
            clear hp hf NC 
            go_wp2_with fail
            go_ret
            exact ⟨rfl, HZ.out⟩
          | false =>
            go_wp2_with fail
            refine IC.out.mono ?_
            rintro e w19 ⟨rfl, k1⟩
            have HP1 := Lib.hid (HP0.out.keep k1)
            have HF1 := Lib.hid (HF0.out.keeps k1)
            have HB1 := Lib.hid (own_keep HB0.out.1 ((Fr.refl Rk wr).keeps k1) HB0.out.2)
            clear HP0 HF0 HB0 IC k1 c5
            have h := HA.out
            rw [if_pos (by rfl)] at h
            replace HA := Lib.hid h
            clear h
            obtain ⟨y, s20, hm, h⟩ := bind_out HA.out
            have NC := Lib.hid (ST _ _ _ _ _ hm HP1.out)
            replace HA := Lib.hid h
            clear h hm
            go_wp2_with fail
            refine NC.out.mono ?_
            rintro e w21 ⟨rfl, R22, hp, hf⟩
            have HP2 := Lib.hid hp
            have HF2 := Lib.hid (HF1.out.trans hf)
            have HB2 := Lib.hid (own_keep HB1.out.1 hf HB1.out.2)
            clear HP1 HF1 HB1 hp hf NC 
            go_wp2_with (at_builtin; refine wpList_append_atk rfl (.tmp 31) (.tmp 33) 31 rfl 0 3 i0 _ 1 8 Tryd.underlying31 hi0 hz0 hz1 hz2 (by rfl) (by omega) (.slice A n c) (n) (valI l) (by rfl) (ownsRow_keep HB2.out.1 (fun g hg => (Keeps.one w21 _).block g (own_ltk HB2.out.1 hg) (fun h => h))) ⟨w21.heap.size, 0, none⟩ 1 1 (valI [y]) (by rfl) (by rfl) (newsI y _) (valI_one _) (by omega) (by omega) (Nat.zero_le _) ?_; intro v5 w23 h5 g5 b5; obtain ⟨A24, c25, rfl⟩ := own_formk h5; have hmm := own_moreR HP2.out HF2.out HLO.out HB2.out.2 (Keeps.one w21 (.cells #[.int .i64 y] 3)) g5 b5; have HP3 := Lib.hid hmm.1; have HF3 := Lib.hid hmm.2.1; have HB3 : Hid (w23.ownsRow 0 3 1 (.slice A24 (n + 1) c25) (n + 1) (valI (l ++ [y])) ∧ ∀ g, (Value.slice A24 (n + 1) c25).ownBlock = some g → ¬ R22 g ∧ w.heap.size ≤ g) := Lib.hid (And.intro (row_app h5) hmm.2.2.1); clear hmm h5 g5 b5 HP2 HF2 HB2)
            go_roundg k
            case measure => omega
            case rel => exact ⟨l ++ [y], _, n + 1, _, _, _, rfl, by rw [List.length_append, ← HNL.out]; rfl, by have := HNK.out; omega, HA.out, HP3.out, HF3.out, HB3.out⟩
        · skip
          have heI : ¬ (sk.er : Int) = 0 := by omega
          have hd : ((sk.er : Int) == 0) = false := by simpa using heI
          have hbb : b = false := by rw [hb2, decide_eq_false he]; rfl
          subst hbb
          generalize (sk.er : Int) = er at c5 heI hd
          clear hb2 he
          go_upto_region 14 with fail
          clear c5 heI hd
          have h := HA.out
          rw [if_neg (by decide)] at h
          obtain ⟨q1, q2⟩ := pure_end h
          subst q1
          subst q2
          clear HA h
          obtain ⟨s26, e1, h⟩ := mod_out HM.out
          have NC := Lib.hid (must_q HP0.out ({ data := #[125] }) e1)
          replace HM := Lib.hid h
          clear h e1
          go_wp2_with fail
          refine NC.out.mono ?_
          rintro e w27 ⟨rfl, R28, hp, hf⟩
          have HP1 := Lib.hid hp
          have HF1 := Lib.hid (HF0.out.trans hf)
          have HB1 := Lib.hid (own_keep HB0.out.1 hf HB0.out.2)
          clear HP0 HF0 HB0 hp hf NC 
          obtain ⟨u, s29, hm, h⟩ := bind_out HM.out
          obtain ⟨hd, e1⟩ := deep_out hm
          replace HM := Lib.hid h
          have hs := HP1.out.see
          have c4 := hs.c4
          have f4 := hs.fz 4
          have hw := IntWalk.i64_in (s26.dp - 1) (by omega)
          have hset := HP1.out.setDp (s26.dp - 1)
          have HP2 : Hid (Red (w27.setCell ⟨P, 4, none⟩ (.int .i64 (s26.dp - 1))) P src T R28 s29) := Lib.hid (by rw [e1]; exact hset.1)
          have HF2 := Lib.hid (HF1.out.trans hset.2)
          have HB2 := Lib.hid (own_keep HB1.out.1 hset.2 HB1.out.2)
          clear h hm e1 hs hset HP1 HF1 HB1
          generalize s26.dp = dp at *
          go_upto_region 16 with fail
          generalize w27.setCell ⟨P, 4, none⟩ (.int .i64 (dp - 1)) = w30 at *
          clear c4 f4 hw hd
          have NC := Lib.hid ((putC P src T).row HP2.out (18) (ln) (0) ([]) L (HNL.out) HB2.out.1 HF2.out HLO.out HB2.out.2 HM.out)
          go_wp2_with fail
          refine NC.out.mono ?_
          rintro e w31 ⟨rfl, R32, hp, hf⟩
          have HZ : Hid (∃ R', Red w31 P src T R' s' ∧ Fr R w R' w31) := Lib.hid ⟨_, hp, hf⟩
          clear hp hf NC 
          go_wp2_with fail
          go_ret
          exact ⟨rfl, HZ.out⟩
  | false =>
    have h := HM.out
    rw [if_neg (by decide)] at h
    replace HM := Lib.hid h
    clear h
    go_wp2_with fail
    refine IC.out.mono ?_
    rintro e w33 ⟨rfl, k1⟩
    have HP2 := Lib.hid (HP1.out.keep k1)
    have HF2 := Lib.hid (HF1.out.keeps k1)
    clear HP1 HF1 IC k1 
    obtain ⟨s34, e1, h⟩ := mod_out HM.out
    have NC := Lib.hid (fails_q HP2.out 20 e1)
    replace HM := Lib.hid h
    clear h e1
    go_wp2_with fail
    refine NC.out.mono ?_
    rintro e w35 ⟨rfl, R36, hp, hf⟩
    have HP3 := Lib.hid hp
    have HF3 := Lib.hid (HF2.out.trans hf)
    clear HP2 HF2 hp hf NC 
    obtain ⟨q1, q2⟩ := pure_end HM.out
    subst q1
    subst q2
    go_wp2_with fail
    go_ret
    exact ⟨rfl, _, HP3.out, HF3.out⟩
/-- What statements tell, so deep at most. -/
theorem rst_any {P : Nat} {src : ByteArray} {T : List Tok} {N : Nat} (hsz : src.size ≤ 1000) (hN : N ≤ 100000) (n : Nat) : RexC P src T 97 (rstM src.data.toList T N n) := by
  induction n with
  | zero => exact fun s a s1 R w h => (by cases h)
  | succ n ih =>
    have EX : RexC P src T 119 (rexM src.data.toList T N 0) := rexpr_any ((rex_any hsz N).2 0 (by omega))
    have CALL := rcall_any (N := N) hsz hN EX
    exact rstatement_any hsz EX (rblock_any hsz hN ih) CALL (rright_any hsz EX CALL)
end Go.Proofs.YtgelggdgbmldiaaDoor
