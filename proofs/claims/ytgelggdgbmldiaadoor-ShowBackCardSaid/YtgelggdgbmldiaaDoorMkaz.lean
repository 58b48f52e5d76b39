/-
  Layer 2: the document's reader: atom. Written by an AI agent.
-/
import Derived.Shelf.Strconv.AtoiAll
import Derived.Test.YtgelggdgbmldiaaDoorMkay
namespace Go.Proofs.YtgelggdgbmldiaaDoor
open Go Go.RowKit Go.Shelf
set_option linter.unusedVariables false
set_option linter.unusedSimpArgs false

shelf_lay LaysC.n172 Nm 172 at Tryd as laysAtoi
theorem atoi_digits (x : List UInt8) (hne : x ≠ []) (hd : ∀ c ∈ x, dig c = true) (hv : numV x ≤ 9223372036854775807) : Lib.atoiAll x = .ok (numV x : Int) := by
  have h := parse_digits x hne hd
  rw [if_pos hv] at h
  rw [← Lib.parseIntB_64]
  exact h
theorem ratoi_any (x : List UInt8) (hl : x.length ≤ 1000) (hne : x ≠ []) (hd : ∀ c ∈ x, dig c = true) (hv : numV x ≤ 9223372036854775807) (w : World) :
    Calls Tryd.prog 165 #[.string (ofL x)] w fun e w' => e = .returned (.tuple #[.int .i64 (intV x), .nilIface]) ∧ Keeps (fun _ => False) w w' := by
  have e := ofL_list x
  have hp := atoi_digits (ofL x).data.toList (by rw [e]; exact hne) (by rw [e]; exact hd) (by rw [e]; exact hv)
  rw [e] at hp
  unfold intV
  rw [if_pos hv]
  exact (Any.strconv_Atoi_ok laysAtoi (ofL x) (by rw [ofL_size]; omega) _ (by rw [e]; exact hp) w).mono fun e w' ⟨e1, e2⟩ => ⟨e1, keeps_bytes w _ (ofL x) w' e2⟩
set_option maxRecDepth 100000 in
set_option maxHeartbeats 16000000 in
theorem ratom_any {P : Nat} {src : ByteArray} {T : List Tok} {ex : PM Int} (hsz : src.size ≤ 1000) (EX : RexC P src T 119 ex) : RexC P src T 160 (ratomM src.data.toList T ex) := by
  intro s r s' R w h hp
  have HP0 := Lib.hid hp
  have HF0 := Lib.hid (Fr.refl R w)
  have HLO := Lib.hid hp.lo
  have HM := Lib.hid h
  clear h hp
  go_enter Tryd.func160, Tryd.ntmps160
  obtain ⟨ln, hln, h⟩ := ask_out HM.out
  have LC := Lib.hid (rline_q hsz HP0.out hln)
  replace HM := Lib.hid h
  clear h hln
  go_wp2_with fail
  refine LC.out.mono ?_
  rintro e w1 ⟨rfl, k1⟩
  have HP1 := Lib.hid (HP0.out.keep k1)
  have HF1 := Lib.hid (HF0.out.keeps k1)
  clear HP0 HF0 LC k1 
  have HT : Hid (TokOK T) := Lib.hid HP1.out.ok
  have HI : Hid (s.i < T.length) := Lib.hid HP1.out.hi
  obtain ⟨tk, ht, h⟩ := ask_out HM.out
  obtain ⟨er, her, h⟩ := ask_out h
  have HTK := Lib.hid ht
  have HER := Lib.hid her
  replace HM := Lib.hid h
  clear h
  obtain ⟨tb, toff, tcT, htbP, c1, t0, t1, t2⟩ := HP1.out.tokAt s.i HI.out
  have ht2 : tk = T.getD s.i default := ht
  rw [← ht2] at t0 t1 t2
  have c2 := HP1.out.see.c2
  have hle := HT.out.le
  have hi := HI.out
  have hPl := HP1.out.lo
  have htbl := cell_ltk t0
  obtain ⟨i, hI⟩ : ∃ i, i = s.i := ⟨_, rfl⟩
  obtain ⟨nn, hnn⟩ : ∃ nn, nn = T.length := ⟨_, rfl⟩
  rw [← hI] at c2 hi t0 t1 t2
  rw [← hnn] at c1 hi hle
  have h0 : (0 : Int) ≤ (i : Int) := by omega
  have h1 : (i : Int) < (nn : Int) := by omega
  have ka : Keeps (fun _ => False) w1 (w1.alloc (.cells #[.int .i64 (tk.k : Int), .string (ofL tk.x), .int .i64 (tk.p : Int)] 54)).drew := (Keeps.one w1 _).drew
  have HXY2 : Hid (Loc (w1.alloc (.cells #[.int .i64 (tk.k : Int), .string (ofL tk.x), .int .i64 (tk.p : Int)] 54)).drew R w1.heap.size [.int .i64 (tk.k : Int), .string (ofL tk.x), .int .i64 (tk.p : Int)]) := Lib.hid ((Loc.new HP1.out.new [.int .i64 (tk.k : Int), .string (ofL tk.x), .int .i64 (tk.p : Int)] 54).keeps (Keeps.refl _ _).drew)
  have HP2 := Lib.hid (HP1.out.keep ka)
  have HF2 := Lib.hid (HF1.out.keeps ka)
  clear HP1 HF1 ka ht her ht2 hI hnn
  generalize hkk : ((tk.k : Nat) : Int) = kk at *
  generalize hxx : ofL tk.x = xx at *
  generalize hpp : ((tk.p : Nat) : Int) = pp at *
  have HKK := Lib.hid hkk
  have HXX := Lib.hid hxx
  clear hkk hxx hpp
  go_upto_region 2 with fail
  go_region
  generalize w1.heap.size = Y at *
  generalize (w1.alloc (.cells #[.int .i64 kk, .string xx, .int .i64 pp] 54)).drew = wA at *
  clear c1 c2 t0 t1 t2 htbP htbl h0 h1 hi hle hPl
  have c5 := HP2.out.see.c5
  have her2 : er = s.er := HER.out
  rw [← her2] at c5
  clear her2
  by_cases he : er ≠ 0
  · have h := HM.out
    rw [if_pos he] at h
    replace HM := Lib.hid h
    clear h
    have hne : ((er : Int) != 0) = true := by simp; omega
    generalize (er : Int) = er2 at *
    clear he HER
    obtain ⟨q1, q2⟩ := pure_end HM.out
    subst q1
    subst q2
    go_wp2_with fail
    go_ret
    exact ⟨rfl, _, HP2.out, HF2.out⟩
  · have h := HM.out
    rw [if_neg he] at h
    replace HM := Lib.hid h
    clear h
    have he0 : er = 0 := by omega
    subst he0
    have hz0 : (((0 : Nat) : Int) != 0) = false := by decide
    clear he HER
    by_cases hk : tk.k = 1
    · have h := HM.out
      rw [if_pos hk] at h
      replace HM := Lib.hid h
      clear h
      have zY0 := HXY2.out.cells 0 _ rfl
      have hkv : kk = 1 := by rw [← HKK.out, hk]; rfl
      rw [hkv] at zY0
      have HK9 := Lib.hid hk
      clear hk hkv
      go_upto_region 6 with fail
      clear c5 zY0 hz0
      obtain ⟨u, s2, hm, h⟩ := bind_out HM.out
      obtain ⟨hi, e1⟩ := go_out hm
      replace HM := Lib.hid h
      obtain ⟨ew, c2, f2, hp, hf⟩ := HP2.out.stepAt hi
      have HP3 : Hid (Red (wA.setCell ⟨P, 2, none⟩ (.int .i64 ((s.i : Int) + 1))) P src T R s2) := Lib.hid (by rw [e1]; exact hp)
      have HF3 := Lib.hid (HF2.out.trans hf)
      have HXY3 := Lib.hid (HXY2.out.keep hf)
      clear h hm e1 hi hp hf HP2 HF2 HXY2
      generalize (s.i : Int) = ii at *
      go_upto_region 7 with fail
      generalize wA.setCell ⟨P, 2, none⟩ (.int .i64 (ii + 1)) = w3 at *
      clear c2 f2 ew
      have zY1 := HXY3.out.cells 1 _ rfl
      have PC : Hid (Calls Tryd.prog 165 #[.string xx] w3 fun e w' => e = .returned (.tuple #[.int .i64 (intV tk.x), .nilIface]) ∧ Keeps (fun _ => False) w3 w') := Lib.hid (by
        have e : tk = T.getD s.i default := HTK.out
        have h1 := HT.out.num s.i HI.out (by rw [← e]; exact HK9.out)
        have h2 := HT.out.long s.i HI.out
        rw [← e] at h1 h2
        rw [← HXX.out]
        exact ratoi_any tk.x h2 h1.1 h1.2.1 h1.2.2 _)
      clear HTK HT HI HK9
      go_wp2_with fail
      refine PC.out.mono ?_
      rintro e w4 ⟨rfl, k1⟩
      have HP4 := Lib.hid (HP3.out.keep k1)
      have HF4 := Lib.hid (HF3.out.keeps k1)
      have HXY4 := Lib.hid (HXY3.out.keeps k1)
      clear HP3 HF3 HXY3 PC k1 zY1
      have NC := Lib.hid ((putC P src T).nil HP4.out (1) (ln) (intV tk.x) ([]) HM.out)
      go_wp2_with fail
      refine NC.out.mono ?_
      rintro e w5 ⟨rfl, R6, hp, hf⟩
      have HP5 := Lib.hid hp
      have HF5 := Lib.hid (HF4.out.trans hf)
      have HXY5 := Lib.hid (HXY4.out.keep hf)
      clear HP4 HF4 HXY4 hp hf NC 
      go_wp2_with fail
      go_ret
      exact ⟨rfl, _, HP5.out, HF5.out⟩
    · have h := HM.out
      rw [if_neg hk] at h
      replace HM := Lib.hid h
      clear h
      have hk1 : (kk == 1) = false := by have := HKK.out; simp; omega
      clear hk
      by_cases hk : tk.k = 2
      · have h := HM.out
        rw [if_pos hk] at h
        replace HM := Lib.hid h
        clear h
        have zY0 := HXY2.out.cells 0 _ rfl
        have hkv : kk = 2 := by rw [← HKK.out, hk]; rfl
        rw [hkv] at zY0
        have HK9 := Lib.hid hk
        clear hk hkv
        clear HTK HT HI HK9
        go_upto_region 10 with fail
        clear c5 zY0 hz0
        obtain ⟨u, s7, hm, h⟩ := bind_out HM.out
        obtain ⟨hi, e1⟩ := go_out hm
        replace HM := Lib.hid h
        obtain ⟨ew, c2, f2, hp, hf⟩ := HP2.out.stepAt hi
        have HP3 : Hid (Red (wA.setCell ⟨P, 2, none⟩ (.int .i64 ((s.i : Int) + 1))) P src T R s7) := Lib.hid (by rw [e1]; exact hp)
        have HF3 := Lib.hid (HF2.out.trans hf)
        have HXY3 := Lib.hid (HXY2.out.keep hf)
        clear h hm e1 hi hp hf HP2 HF2 HXY2
        generalize (s.i : Int) = ii at *
        go_upto_region 11 with fail
        generalize wA.setCell ⟨P, 2, none⟩ (.int .i64 (ii + 1)) = w8 at *
        clear c2 f2 ew
        have zY1 := HXY3.out.cells 1 _ rfl
        rw [← HXX.out] at zY1
        have NC := Lib.hid ((putC P src T).nil HP3.out (3) (ln) (0) (tk.x) HM.out)
        go_wp2_with fail
        refine NC.out.mono ?_
        rintro e w9 ⟨rfl, R10, hp, hf⟩
        have HP4 := Lib.hid hp
        have HF4 := Lib.hid (HF3.out.trans hf)
        have HXY4 := Lib.hid (HXY3.out.keep hf)
        clear HP3 HF3 HXY3 hp hf NC zY1
        go_wp2_with fail
        go_ret
        exact ⟨rfl, _, HP4.out, HF4.out⟩
      · have h := HM.out
        rw [if_neg hk] at h
        replace HM := Lib.hid h
        clear h
        have hk2 : (kk == 2) = false := by have := HKK.out; simp; omega
        clear hk
        by_cases hk : tk.k = 3
        · have h := HM.out
          rw [if_pos hk] at h
          replace HM := Lib.hid h
          clear h
          have zY0 := HXY2.out.cells 0 _ rfl
          have hkv : kk = 3 := by rw [← HKK.out, hk]; rfl
          rw [hkv] at zY0
          have HK9 := Lib.hid hk
          clear hk hkv
          clear HTK HT HI HK9
          go_upto_region 13 with fail
          clear c5 zY0 hz0 hk1 hk2
          obtain ⟨u, s11, hm, h⟩ := bind_out HM.out
          obtain ⟨hi, e1⟩ := go_out hm
          replace HM := Lib.hid h
          obtain ⟨ew, c2, f2, hp, hf⟩ := HP2.out.stepAt hi
          have HP3 : Hid (Red (wA.setCell ⟨P, 2, none⟩ (.int .i64 ((s.i : Int) + 1))) P src T R s11) := Lib.hid (by rw [e1]; exact hp)
          have HF3 := Lib.hid (HF2.out.trans hf)
          have HXY3 := Lib.hid (HXY2.out.keep hf)
          clear h hm e1 hi hp hf HP2 HF2 HXY2
          generalize (s.i : Int) = ii at *
          go_upto_region 14 with fail
          generalize wA.setCell ⟨P, 2, none⟩ (.int .i64 (ii + 1)) = w12 at *
          clear c2 f2 ew
          obtain ⟨b, hb, h⟩ := ask_out HM.out
          have IC := Lib.hid (ris_q HP3.out ({ data := #[91] }) hb)
          replace HM := Lib.hid h
          clear h hb
          cases b with
          | true =>
            have h := HM.out
            rw [if_pos rfl] at h
            replace HM := Lib.hid h
            clear h
            go_wp2_with fail
            refine IC.out.mono ?_
            rintro e w13 ⟨rfl, k1⟩
            have HP4 := Lib.hid (HP3.out.keep k1)
            have HF4 := Lib.hid (HF3.out.keeps k1)
            have HXY4 := Lib.hid (HXY3.out.keeps k1)
            clear HP3 HF3 HXY3 IC k1 
            obtain ⟨y, s14, hm, h⟩ := bind_out HM.out
            have HK := Lib.hid h
            have HW := Lib.hid hm
            clear h hm
            unfold withinR at HW
            obtain ⟨u, s15, hm, h⟩ := bind_out HW.out
            have NC := Lib.hid (rdown_any HP4.out hm)
            replace HW := Lib.hid h
            clear h hm
            go_wp2_with fail
            refine NC.out.mono ?_
            rintro e w16 ⟨rfl, R17, hp, hf⟩
            have HP5 := Lib.hid hp
            have HF5 := Lib.hid (HF4.out.trans hf)
            have HXY5 := Lib.hid (HXY4.out.keep hf)
            clear HP4 HF4 HXY4 hp hf NC 
            obtain ⟨s18, e1, h⟩ := mod_out HW.out
            have NC := Lib.hid (must_q HP5.out ({ data := #[91] }) e1)
            replace HW := Lib.hid h
            clear h e1
            go_wp2_with fail
            refine NC.out.mono ?_
            rintro e w19 ⟨rfl, R20, hp, hf⟩
            have HP6 := Lib.hid hp
            have HF6 := Lib.hid (HF5.out.trans hf)
            have HXY6 := Lib.hid (HXY5.out.keep hf)
            clear HP5 HF5 HXY5 hp hf NC 
            obtain ⟨a, s21, hm, h⟩ := bind_out HW.out
            have NC := Lib.hid (EX _ _ _ _ _ hm HP6.out)
            replace HW := Lib.hid h
            clear h hm
            go_wp2_with fail
            refine NC.out.mono ?_
            rintro e w22 ⟨rfl, R23, hp, hf⟩
            have HP7 := Lib.hid hp
            have HF7 := Lib.hid (HF6.out.trans hf)
            have HXY7 := Lib.hid (HXY6.out.keep hf)
            clear HP6 HF6 HXY6 hp hf NC 
            obtain ⟨s24, e1, h⟩ := mod_out HW.out
            have NC := Lib.hid (must_q HP7.out ({ data := #[93] }) e1)
            replace HW := Lib.hid h
            clear h e1
            go_wp2_with fail
            refine NC.out.mono ?_
            rintro e w25 ⟨rfl, R26, hp, hf⟩
            have HP8 := Lib.hid hp
            have HF8 := Lib.hid (HF7.out.trans hf)
            have HXY8 := Lib.hid (HXY7.out.keep hf)
            clear HP7 HF7 HXY7 hp hf NC 
            obtain ⟨u, s27, hm, h⟩ := bind_out HW.out
            obtain ⟨hd, e1⟩ := deep_out hm
            replace HW := Lib.hid h
            have hs := HP8.out.see
            have c4 := hs.c4
            have f4 := hs.fz 4
            have hw := IntWalk.i64_in (s24.dp - 1) (by omega)
            have hset := HP8.out.setDp (s24.dp - 1)
            have HP9 : Hid (Red (w25.setCell ⟨P, 4, none⟩ (.int .i64 (s24.dp - 1))) P src T R26 s27) := Lib.hid (by rw [e1]; exact hset.1)
            have HF9 := Lib.hid (HF8.out.trans hset.2)
            have HXY9 := Lib.hid (HXY8.out.keep hset.2)
            clear h hm e1 hs hset HP8 HF8 HXY8
            generalize s24.dp = dp at *
            go_upto_region 22 with fail
            generalize w25.setCell ⟨P, 4, none⟩ (.int .i64 (dp - 1)) = w28 at *
            clear c4 f4 hw hd
            obtain ⟨q1, q2⟩ := pure_end HW.out
            subst q1
            subst q2
            replace HM := HK
            clear HK HW
            have zY1 := HXY9.out.cells 1 _ rfl
            rw [← HXX.out] at zY1
            have NC := Lib.hid ((putC P src T).one HP9.out (5) (ln) (0) (tk.x) y HM.out)
            go_wp2_with fail
            refine NC.out.mono ?_
            rintro e w29 ⟨rfl, R30, hp, hf⟩
            have HP10 := Lib.hid hp
            have HF10 := Lib.hid (HF9.out.trans hf)
            have HXY10 := Lib.hid (HXY9.out.keep hf)
            clear HP9 HF9 HXY9 hp hf NC zY1
            go_wp2_with fail
            go_ret
            exact ⟨rfl, _, HP10.out, HF10.out⟩
          | false =>
            have h := HM.out
            rw [if_neg (by decide)] at h
            replace HM := Lib.hid h
            clear h
            go_wp2_with fail
            refine IC.out.mono ?_
            rintro e w31 ⟨rfl, k1⟩
            have HP4 := Lib.hid (HP3.out.keep k1)
            have HF4 := Lib.hid (HF3.out.keeps k1)
            have HXY4 := Lib.hid (HXY3.out.keeps k1)
            clear HP3 HF3 HXY3 IC k1 
            have zY1 := HXY4.out.cells 1 _ rfl
            rw [← HXX.out] at zY1
            have NC := Lib.hid ((putC P src T).nil HP4.out (4) (ln) (0) (tk.x) HM.out)
            go_wp2_with fail
            refine NC.out.mono ?_
            rintro e w32 ⟨rfl, R33, hp, hf⟩
            have HP5 := Lib.hid hp
            have HF5 := Lib.hid (HF4.out.trans hf)
            have HXY5 := Lib.hid (HXY4.out.keep hf)
            clear HP4 HF4 HXY4 hp hf NC zY1
            go_wp2_with fail
            go_ret
            exact ⟨rfl, _, HP5.out, HF5.out⟩
        · have h := HM.out
          rw [if_neg hk] at h
          replace HM := Lib.hid h
          clear h
          have hk3 : (kk == 3) = false := by have := HKK.out; simp; omega
          clear hk
          have zY0 := HXY2.out.cells 0 _ rfl
          clear HTK HT HI
          go_upto_region 23 with fail
          clear c5 zY0 hz0 hk1 hk2 hk3
          obtain ⟨b, hb, h⟩ := ask_out HM.out
          have IC := Lib.hid (ris_q HP2.out ({ data := #[116, 114, 117, 101] }) hb)
          replace HM := Lib.hid h
          clear h hb
          cases b with
          | true =>
            go_wp2_with fail
            refine IC.out.mono ?_
            rintro e w34 ⟨rfl, k1⟩
            have HP3 := Lib.hid (HP2.out.keep k1)
            have HF3 := Lib.hid (HF2.out.keeps k1)
            have HXY3 := Lib.hid (HXY2.out.keeps k1)
            clear HP2 HF2 HXY2 IC k1 
            obtain ⟨b, hb, h⟩ := ask_out HM.out
            have IC := Lib.hid (ris_q HP3.out ({ data := #[102, 97, 108, 115, 101] }) hb)
            replace HM := Lib.hid h
            clear h hb
            cases b with
            | true =>
              go_wp2_with fail
              refine IC.out.mono ?_
              rintro e w35 ⟨rfl, k1⟩
              have HP4 := Lib.hid (HP3.out.keep k1)
              have HF4 := Lib.hid (HF3.out.keeps k1)
              have HXY4 := Lib.hid (HXY3.out.keeps k1)
              clear HP3 HF3 HXY3 IC k1 
              have h := HM.out
              rw [if_pos (show (true || true) = true from rfl)] at h
              replace HM := Lib.hid h
              clear h
              go_upto_region 26 with fail
              obtain ⟨u, s36, hm, h⟩ := bind_out HM.out
              obtain ⟨hi, e1⟩ := go_out hm
              replace HM := Lib.hid h
              obtain ⟨ew, c2, f2, hp, hf⟩ := HP4.out.stepAt hi
              have HP5 : Hid (Red (w35.setCell ⟨P, 2, none⟩ (.int .i64 ((s.i : Int) + 1))) P src T R s36) := Lib.hid (by rw [e1]; exact hp)
              have HF5 := Lib.hid (HF4.out.trans hf)
              have HXY5 := Lib.hid (HXY4.out.keep hf)
              clear h hm e1 hi hp hf HP4 HF4 HXY4
              generalize (s.i : Int) = ii at *
              go_upto_region 27 with fail
              generalize w35.setCell ⟨P, 2, none⟩ (.int .i64 (ii + 1)) = w37 at *
              clear c2 f2 ew
              have h := HM.out
              first | rw [if_pos rfl] at h | rw [if_pos trivial] at h
              replace HM := Lib.hid h
              clear h
              have NC := Lib.hid ((putC P src T).nil HP5.out (2) (ln) (1) ([]) HM.out)
              go_wp2_with fail
              refine NC.out.mono ?_
              rintro e w38 ⟨rfl, R39, hp, hf⟩
              have HP6 := Lib.hid hp
              have HF6 := Lib.hid (HF5.out.trans hf)
              have HXY6 := Lib.hid (HXY5.out.keep hf)
              clear HP5 HF5 HXY5 hp hf NC 
              go_wp2_with fail
              go_ret
              exact ⟨rfl, _, HP6.out, HF6.out⟩
            | false =>
              go_wp2_with fail
              refine IC.out.mono ?_
              rintro e w40 ⟨rfl, k1⟩
              have HP4 := Lib.hid (HP3.out.keep k1)
              have HF4 := Lib.hid (HF3.out.keeps k1)
              have HXY4 := Lib.hid (HXY3.out.keeps k1)
              clear HP3 HF3 HXY3 IC k1 
              have h := HM.out
              rw [if_pos (show (true || false) = true from rfl)] at h
              replace HM := Lib.hid h
              clear h
              go_upto_region 26 with fail
              obtain ⟨u, s41, hm, h⟩ := bind_out HM.out
              obtain ⟨hi, e1⟩ := go_out hm
              replace HM := Lib.hid h
              obtain ⟨ew, c2, f2, hp, hf⟩ := HP4.out.stepAt hi
              have HP5 : Hid (Red (w40.setCell ⟨P, 2, none⟩ (.int .i64 ((s.i : Int) + 1))) P src T R s41) := Lib.hid (by rw [e1]; exact hp)
              have HF5 := Lib.hid (HF4.out.trans hf)
              have HXY5 := Lib.hid (HXY4.out.keep hf)
              clear h hm e1 hi hp hf HP4 HF4 HXY4
              generalize (s.i : Int) = ii at *
              go_upto_region 27 with fail
              generalize w40.setCell ⟨P, 2, none⟩ (.int .i64 (ii + 1)) = w42 at *
              clear c2 f2 ew
              have h := HM.out
              first | rw [if_pos rfl] at h | rw [if_pos trivial] at h
              replace HM := Lib.hid h
              clear h
              have NC := Lib.hid ((putC P src T).nil HP5.out (2) (ln) (1) ([]) HM.out)
              go_wp2_with fail
              refine NC.out.mono ?_
              rintro e w43 ⟨rfl, R44, hp, hf⟩
              have HP6 := Lib.hid hp
              have HF6 := Lib.hid (HF5.out.trans hf)
              have HXY6 := Lib.hid (HXY5.out.keep hf)
              clear HP5 HF5 HXY5 hp hf NC 
              go_wp2_with fail
              go_ret
              exact ⟨rfl, _, HP6.out, HF6.out⟩
          | false =>
            go_wp2_with fail
            refine IC.out.mono ?_
            rintro e w45 ⟨rfl, k1⟩
            have HP3 := Lib.hid (HP2.out.keep k1)
            have HF3 := Lib.hid (HF2.out.keeps k1)
            have HXY3 := Lib.hid (HXY2.out.keeps k1)
            clear HP2 HF2 HXY2 IC k1 
            obtain ⟨b, hb, h⟩ := ask_out HM.out
            have IC := Lib.hid (ris_q HP3.out ({ data := #[102, 97, 108, 115, 101] }) hb)
            replace HM := Lib.hid h
            clear h hb
            cases b with
            | true =>
              go_wp2_with fail
              refine IC.out.mono ?_
              rintro e w46 ⟨rfl, k1⟩
              have HP4 := Lib.hid (HP3.out.keep k1)
              have HF4 := Lib.hid (HF3.out.keeps k1)
              have HXY4 := Lib.hid (HXY3.out.keeps k1)
              clear HP3 HF3 HXY3 IC k1 
              have h := HM.out
              rw [if_pos (show (false || true) = true from rfl)] at h
              replace HM := Lib.hid h
              clear h
              go_upto_region 26 with fail
              obtain ⟨u, s47, hm, h⟩ := bind_out HM.out
              obtain ⟨hi, e1⟩ := go_out hm
              replace HM := Lib.hid h
              obtain ⟨ew, c2, f2, hp, hf⟩ := HP4.out.stepAt hi
              have HP5 : Hid (Red (w46.setCell ⟨P, 2, none⟩ (.int .i64 ((s.i : Int) + 1))) P src T R s47) := Lib.hid (by rw [e1]; exact hp)
              have HF5 := Lib.hid (HF4.out.trans hf)
              have HXY5 := Lib.hid (HXY4.out.keep hf)
              clear h hm e1 hi hp hf HP4 HF4 HXY4
              generalize (s.i : Int) = ii at *
              go_upto_region 27 with fail
              generalize w46.setCell ⟨P, 2, none⟩ (.int .i64 (ii + 1)) = w48 at *
              clear c2 f2 ew
              have h := HM.out
              first | rw [if_neg (show ¬ false = true by decide)] at h | rw [if_neg (show ¬ False by decide)] at h
              replace HM := Lib.hid h
              clear h
              have NC := Lib.hid ((putC P src T).nil HP5.out (2) (ln) (0) ([]) HM.out)
              go_wp2_with fail
              refine NC.out.mono ?_
              rintro e w49 ⟨rfl, R50, hp, hf⟩
              have HP6 := Lib.hid hp
              have HF6 := Lib.hid (HF5.out.trans hf)
              have HXY6 := Lib.hid (HXY5.out.keep hf)
              clear HP5 HF5 HXY5 hp hf NC 
              go_wp2_with fail
              go_ret
              exact ⟨rfl, _, HP6.out, HF6.out⟩
            | false =>
              go_wp2_with fail
              refine IC.out.mono ?_
              rintro e w51 ⟨rfl, k1⟩
              have HP4 := Lib.hid (HP3.out.keep k1)
              have HF4 := Lib.hid (HF3.out.keeps k1)
              have HXY4 := Lib.hid (HXY3.out.keeps k1)
              clear HP3 HF3 HXY3 IC k1 
              have h := HM.out
              rw [if_neg (show ¬ (false || false) = true by decide)] at h
              replace HM := Lib.hid h
              clear h
              obtain ⟨b, hb, h⟩ := ask_out HM.out
              have IC := Lib.hid (ris_q HP4.out ({ data := #[108, 101, 110] }) hb)
              replace HM := Lib.hid h
              clear h hb
              cases b with
              | true =>
                go_wp2_with fail
                refine IC.out.mono ?_
                rintro e w52 ⟨rfl, k1⟩
                have HP5 := Lib.hid (HP4.out.keep k1)
                have HF5 := Lib.hid (HF4.out.keeps k1)
                have HXY5 := Lib.hid (HXY4.out.keeps k1)
                clear HP4 HF4 HXY4 IC k1 
                have h := HM.out
                first | rw [if_pos rfl] at h | rw [if_pos trivial] at h
                replace HM := Lib.hid h
                clear h
                go_upto_region 33 with fail
                obtain ⟨u, s53, hm, h⟩ := bind_out HM.out
                obtain ⟨hi, e1⟩ := go_out hm
                replace HM := Lib.hid h
                obtain ⟨ew, c2, f2, hp, hf⟩ := HP5.out.stepAt hi
                have HP6 : Hid (Red (w52.setCell ⟨P, 2, none⟩ (.int .i64 ((s.i : Int) + 1))) P src T R s53) := Lib.hid (by rw [e1]; exact hp)
                have HF6 := Lib.hid (HF5.out.trans hf)
                have HXY6 := Lib.hid (HXY5.out.keep hf)
                clear h hm e1 hi hp hf HP5 HF5 HXY5
                generalize (s.i : Int) = ii at *
                go_upto_region 34 with fail
                generalize w52.setCell ⟨P, 2, none⟩ (.int .i64 (ii + 1)) = w54 at *
                clear c2 f2 ew
                obtain ⟨b, hb, h⟩ := ask_out HM.out
                have IC := Lib.hid (ris_q HP6.out ({ data := #[40] }) hb)
                replace HM := Lib.hid h
                clear h hb
                cases b with
                | true =>
                  have h := HM.out
                  rw [if_pos rfl] at h
                  replace HM := Lib.hid h
                  clear h
                  go_wp2_with fail
                  refine IC.out.mono ?_
                  rintro e w55 ⟨rfl, k1⟩
                  have HP7 := Lib.hid (HP6.out.keep k1)
                  have HF7 := Lib.hid (HF6.out.keeps k1)
                  have HXY7 := Lib.hid (HXY6.out.keeps k1)
                  clear HP6 HF6 HXY6 IC k1 
                  obtain ⟨y, s56, hm, h⟩ := bind_out HM.out
                  have HK := Lib.hid h
                  have HW := Lib.hid hm
                  clear h hm
                  unfold withinR at HW
                  obtain ⟨u, s57, hm, h⟩ := bind_out HW.out
                  have NC := Lib.hid (rdown_any HP7.out hm)
                  replace HW := Lib.hid h
                  clear h hm
                  go_wp2_with fail
                  refine NC.out.mono ?_
                  rintro e w58 ⟨rfl, R59, hp, hf⟩
                  have HP8 := Lib.hid hp
                  have HF8 := Lib.hid (HF7.out.trans hf)
                  have HXY8 := Lib.hid (HXY7.out.keep hf)
                  clear HP7 HF7 HXY7 hp hf NC 
                  obtain ⟨s60, e1, h⟩ := mod_out HW.out
                  have NC := Lib.hid (must_q HP8.out ({ data := #[40] }) e1)
                  replace HW := Lib.hid h
                  clear h e1
                  go_wp2_with fail
                  refine NC.out.mono ?_
                  rintro e w61 ⟨rfl, R62, hp, hf⟩
                  have HP9 := Lib.hid hp
                  have HF9 := Lib.hid (HF8.out.trans hf)
                  have HXY9 := Lib.hid (HXY8.out.keep hf)
                  clear HP8 HF8 HXY8 hp hf NC 
                  obtain ⟨a, s63, hm, h⟩ := bind_out HW.out
                  have NC := Lib.hid (EX _ _ _ _ _ hm HP9.out)
                  replace HW := Lib.hid h
                  clear h hm
                  go_wp2_with fail
                  refine NC.out.mono ?_
                  rintro e w64 ⟨rfl, R65, hp, hf⟩
                  have HP10 := Lib.hid hp
                  have HF10 := Lib.hid (HF9.out.trans hf)
                  have HXY10 := Lib.hid (HXY9.out.keep hf)
                  clear HP9 HF9 HXY9 hp hf NC 
                  obtain ⟨s66, e1, h⟩ := mod_out HW.out
                  have NC := Lib.hid (must_q HP10.out ({ data := #[41] }) e1)
                  replace HW := Lib.hid h
                  clear h e1
                  go_wp2_with fail
                  refine NC.out.mono ?_
                  rintro e w67 ⟨rfl, R68, hp, hf⟩
                  have HP11 := Lib.hid hp
                  have HF11 := Lib.hid (HF10.out.trans hf)
                  have HXY11 := Lib.hid (HXY10.out.keep hf)
                  clear HP10 HF10 HXY10 hp hf NC 
                  obtain ⟨u, s69, hm, h⟩ := bind_out HW.out
                  obtain ⟨hd, e1⟩ := deep_out hm
                  replace HW := Lib.hid h
                  have hs := HP11.out.see
                  have c4 := hs.c4
                  have f4 := hs.fz 4
                  have hw := IntWalk.i64_in (s66.dp - 1) (by omega)
                  have hset := HP11.out.setDp (s66.dp - 1)
                  have HP12 : Hid (Red (w67.setCell ⟨P, 4, none⟩ (.int .i64 (s66.dp - 1))) P src T R68 s69) := Lib.hid (by rw [e1]; exact hset.1)
                  have HF12 := Lib.hid (HF11.out.trans hset.2)
                  have HXY12 := Lib.hid (HXY11.out.keep hset.2)
                  clear h hm e1 hs hset HP11 HF11 HXY11
                  generalize s66.dp = dp at *
                  go_upto_region 43 with fail
                  generalize w67.setCell ⟨P, 4, none⟩ (.int .i64 (dp - 1)) = w70 at *
                  clear c4 f4 hw hd
                  obtain ⟨q1, q2⟩ := pure_end HW.out
                  subst q1
                  subst q2
                  replace HM := HK
                  clear HK HW
                  have h := HM.out
                  first | rw [if_pos rfl] at h | rw [if_pos trivial] at h
                  replace HM := Lib.hid h
                  clear h
                  have NC := Lib.hid ((putC P src T).one HP12.out (6) (ln) (0) ([]) y HM.out)
                  go_wp2_with fail
                  refine NC.out.mono ?_
                  rintro e w71 ⟨rfl, R72, hp, hf⟩
                  have HP13 := Lib.hid hp
                  have HF13 := Lib.hid (HF12.out.trans hf)
                  have HXY13 := Lib.hid (HXY12.out.keep hf)
                  clear HP12 HF12 HXY12 hp hf NC 
                  go_wp2_with fail
                  go_ret
                  exact ⟨rfl, _, HP13.out, HF13.out⟩
                | false =>
                  have h := HM.out
                  rw [if_neg (by decide)] at h
                  replace HM := Lib.hid h
                  clear h
                  go_wp2_with fail
                  refine IC.out.mono ?_
                  rintro e w73 ⟨rfl, k1⟩
                  have HP7 := Lib.hid (HP6.out.keep k1)
                  have HF7 := Lib.hid (HF6.out.keeps k1)
                  have HXY7 := Lib.hid (HXY6.out.keeps k1)
                  clear HP6 HF6 HXY6 IC k1 
                  obtain ⟨s74, e1, h⟩ := mod_out HM.out
                  have NC := Lib.hid (fails_q HP7.out 20 e1)
                  replace HM := Lib.hid h
                  clear h e1
                  go_wp2_with fail
                  refine NC.out.mono ?_
                  rintro e w75 ⟨rfl, R76, hp, hf⟩
                  have HP8 := Lib.hid hp
                  have HF8 := Lib.hid (HF7.out.trans hf)
                  have HXY8 := Lib.hid (HXY7.out.keep hf)
                  clear HP7 HF7 HXY7 hp hf NC 
                  obtain ⟨q1, q2⟩ := pure_end HM.out
                  subst q1
                  subst q2
                  go_wp2_with fail
                  go_ret
                  exact ⟨rfl, _, HP8.out, HF8.out⟩
              | false =>
                go_wp2_with fail
                refine IC.out.mono ?_
                rintro e w77 ⟨rfl, k1⟩
                have HP5 := Lib.hid (HP4.out.keep k1)
                have HF5 := Lib.hid (HF4.out.keeps k1)
                have HXY5 := Lib.hid (HXY4.out.keeps k1)
                clear HP4 HF4 HXY4 IC k1 
                have h := HM.out
                first | rw [if_neg (show ¬ false = true by decide)] at h | rw [if_neg (show ¬ False by decide)] at h
                replace HM := Lib.hid h
                clear h
                obtain ⟨b, hb, h⟩ := ask_out HM.out
                have IC := Lib.hid (ris_q HP5.out ({ data := #[40] }) hb)
                replace HM := Lib.hid h
                clear h hb
                cases b with
                | true =>
                  have h := HM.out
                  rw [if_pos rfl] at h
                  replace HM := Lib.hid h
                  clear h
                  go_wp2_with fail
                  refine IC.out.mono ?_
                  rintro e w78 ⟨rfl, k1⟩
                  have HP6 := Lib.hid (HP5.out.keep k1)
                  have HF6 := Lib.hid (HF5.out.keeps k1)
                  have HXY6 := Lib.hid (HXY5.out.keeps k1)
                  clear HP5 HF5 HXY5 IC k1 
                  obtain ⟨y, s79, hm, h⟩ := bind_out HM.out
                  have HK := Lib.hid h
                  have HW := Lib.hid hm
                  clear h hm
                  unfold withinR at HW
                  obtain ⟨u, s80, hm, h⟩ := bind_out HW.out
                  have NC := Lib.hid (rdown_any HP6.out hm)
                  replace HW := Lib.hid h
                  clear h hm
                  go_wp2_with fail
                  refine NC.out.mono ?_
                  rintro e w81 ⟨rfl, R82, hp, hf⟩
                  have HP7 := Lib.hid hp
                  have HF7 := Lib.hid (HF6.out.trans hf)
                  have HXY7 := Lib.hid (HXY6.out.keep hf)
                  clear HP6 HF6 HXY6 hp hf NC 
                  obtain ⟨s83, e1, h⟩ := mod_out HW.out
                  have NC := Lib.hid (must_q HP7.out ({ data := #[40] }) e1)
                  replace HW := Lib.hid h
                  clear h e1
                  go_wp2_with fail
                  refine NC.out.mono ?_
                  rintro e w84 ⟨rfl, R85, hp, hf⟩
                  have HP8 := Lib.hid hp
                  have HF8 := Lib.hid (HF7.out.trans hf)
                  have HXY8 := Lib.hid (HXY7.out.keep hf)
                  clear HP7 HF7 HXY7 hp hf NC 
                  obtain ⟨a, s86, hm, h⟩ := bind_out HW.out
                  have NC := Lib.hid (EX _ _ _ _ _ hm HP8.out)
                  replace HW := Lib.hid h
                  clear h hm
                  go_wp2_with fail
                  refine NC.out.mono ?_
                  rintro e w87 ⟨rfl, R88, hp, hf⟩
                  have HP9 := Lib.hid hp
                  have HF9 := Lib.hid (HF8.out.trans hf)
                  have HXY9 := Lib.hid (HXY8.out.keep hf)
                  clear HP8 HF8 HXY8 hp hf NC 
                  obtain ⟨s89, e1, h⟩ := mod_out HW.out
                  have NC := Lib.hid (must_q HP9.out ({ data := #[41] }) e1)
                  replace HW := Lib.hid h
                  clear h e1
                  go_wp2_with fail
                  refine NC.out.mono ?_
                  rintro e w90 ⟨rfl, R91, hp, hf⟩
                  have HP10 := Lib.hid hp
                  have HF10 := Lib.hid (HF9.out.trans hf)
                  have HXY10 := Lib.hid (HXY9.out.keep hf)
                  clear HP9 HF9 HXY9 hp hf NC 
                  obtain ⟨u, s92, hm, h⟩ := bind_out HW.out
                  obtain ⟨hd, e1⟩ := deep_out hm
                  replace HW := Lib.hid h
                  have hs := HP10.out.see
                  have c4 := hs.c4
                  have f4 := hs.fz 4
                  have hw := IntWalk.i64_in (s89.dp - 1) (by omega)
                  have hset := HP10.out.setDp (s89.dp - 1)
                  have HP11 : Hid (Red (w90.setCell ⟨P, 4, none⟩ (.int .i64 (s89.dp - 1))) P src T R91 s92) := Lib.hid (by rw [e1]; exact hset.1)
                  have HF11 := Lib.hid (HF10.out.trans hset.2)
                  have HXY11 := Lib.hid (HXY10.out.keep hset.2)
                  clear h hm e1 hs hset HP10 HF10 HXY10
                  generalize s89.dp = dp at *
                  go_upto_region 43 with fail
                  generalize w90.setCell ⟨P, 4, none⟩ (.int .i64 (dp - 1)) = w93 at *
                  clear c4 f4 hw hd
                  obtain ⟨q1, q2⟩ := pure_end HW.out
                  subst q1
                  subst q2
                  replace HM := HK
                  clear HK HW
                  have h := HM.out
                  first | rw [if_neg (show ¬ false = true by decide)] at h | rw [if_neg (show ¬ False by decide)] at h
                  replace HM := Lib.hid h
                  clear h
                  obtain ⟨q1, q2⟩ := pure_end HM.out
                  subst q1
                  subst q2
                  go_wp2_with fail
                  go_ret
                  exact ⟨rfl, _, HP11.out, HF11.out⟩
                | false =>
                  have h := HM.out
                  rw [if_neg (by decide)] at h
                  replace HM := Lib.hid h
                  clear h
                  go_wp2_with fail
                  refine IC.out.mono ?_
                  rintro e w94 ⟨rfl, k1⟩
                  have HP6 := Lib.hid (HP5.out.keep k1)
                  have HF6 := Lib.hid (HF5.out.keeps k1)
                  have HXY6 := Lib.hid (HXY5.out.keeps k1)
                  clear HP5 HF5 HXY5 IC k1 
                  obtain ⟨s95, e1, h⟩ := mod_out HM.out
                  have NC := Lib.hid (fails_q HP6.out 20 e1)
                  replace HM := Lib.hid h
                  clear h e1
                  go_wp2_with fail
                  refine NC.out.mono ?_
                  rintro e w96 ⟨rfl, R97, hp, hf⟩
                  have HP7 := Lib.hid hp
                  have HF7 := Lib.hid (HF6.out.trans hf)
                  have HXY7 := Lib.hid (HXY6.out.keep hf)
                  clear HP6 HF6 HXY6 hp hf NC 
                  obtain ⟨q1, q2⟩ := pure_end HM.out
                  subst q1
                  subst q2
                  go_wp2_with fail
                  go_ret
                  exact ⟨rfl, _, HP7.out, HF7.out⟩
end Go.Proofs.YtgelggdgbmldiaaDoor
