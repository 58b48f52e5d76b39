/-
  Layer 2: right, kind, param. Written by an AI agent.
-/
import Derived.Test.YtgelggdgbmldiaaDoorPaO
import Derived.Deep.RegionHeld
namespace Go.Proofs.YtgelggdgbmldiaaDoor
open Go Go.RowKit Go.Shelf
set_option linter.unusedVariables false
set_option linter.unusedSimpArgs false

set_option maxRecDepth 100000 in
set_option maxHeartbeats 16000000 in
theorem right_any {P : Nat} {src : ByteArray} {T : List Tok} {N : Nat} {ex : PM Int} (hsz : src.size ≤ 1000) (EX : ExC P src T 112 ex) (CALL : ExC P src T 115 (callM src.data.toList T N ex)) : ExC P src T 116 (rightM src.data.toList T N ex) := by
  intro s r s' R w h hp
  have HP0 := Lib.hid hp
  have HF0 := Lib.hid (Fr.refl R w)
  have HLO := Lib.hid hp.lo
  have HM := Lib.hid h
  clear h hp
  go_enter Tryd.func116, Tryd.ntmps116
  obtain ⟨ln, hln, h⟩ := ask_out HM.out
  have LC := Lib.hid (line_at hsz HP0.out hln)
  replace HM := Lib.hid h
  clear h hln
  go_wp2_with fail
  refine LC.out.mono ?_
  rintro e w1 ⟨rfl, k1⟩
  have HP1 := Lib.hid (HP0.out.keep k1)
  have HF1 := Lib.hid (HF0.out.keeps k1)
  clear HP0 HF0 LC k1 
  go_upto_region 2 with fail
  have ka := Keeps.one w1 (.cells #[.int .i64 0, .int .i64 ln, .int .i64 0, .string { data := #[] }, .slice none 0 0] 33)
  obtain ⟨X, hX⟩ : ∃ X, X = w1.heap.size := ⟨_, rfl⟩
  obtain ⟨w2, hw⟩ : ∃ w2, w2 = w1.alloc (.cells #[.int .i64 0, .int .i64 ln, .int .i64 0, .string { data := #[] }, .slice none 0 0] 33) := ⟨_, rfl⟩
  have HXX2 : Hid (Loc w2 R X [.int .i64 0, .int .i64 ln, .int .i64 0, .string (ofL []), .slice none 0 0]) := Lib.hid (by rw [hw, hX]; exact Loc.new HP1.out.new [.int .i64 0, .int .i64 ln, .int .i64 0, .string (ofL []), .slice none 0 0] 33)
  have HWX : Hid (w.heap.size ≤ X) := Lib.hid (by rw [hX]; exact HF1.out.1.size)
  rw [← hX]
  rw [← hw] at ka ⊢
  have HP2 := Lib.hid (HP1.out.keep ka)
  have HF2 := Lib.hid (HF1.out.keeps ka)
  clear HP1 HF1 ka hw hX
  obtain ⟨b, hb, h⟩ := ask_out HM.out
  have IC := Lib.hid (is_at1 HP2.out ({ data := #[105, 110, 112, 117, 116] }) hb)
  replace HM := Lib.hid h
  clear h hb
  cases b with
  | true =>
    have h := HM.out
    rw [if_pos rfl] at h
    replace HM := Lib.hid h
    clear h
    go_wp2_with fail
    refine IC.out.mono ?_
    rintro e w3 ⟨rfl, k1⟩
    have HP3 := Lib.hid (HP2.out.keep k1)
    have HF3 := Lib.hid (HF2.out.keeps k1)
    have HXX3 := Lib.hid (HXX2.out.keeps k1)
    clear HP2 HF2 HXX2 IC k1 
    obtain ⟨s4, e1, h⟩ := mod_out HM.out
    have NC := Lib.hid (next_at HP3.out e1)
    replace HM := Lib.hid h
    clear h e1
    go_wp2_with fail
    refine NC.out.mono ?_
    rintro e w5 ⟨rfl, R6, hp, hf⟩
    have HP4 := Lib.hid hp
    have HF4 := Lib.hid (HF3.out.trans hf)
    have HXX4 := Lib.hid (HXX3.out.keep hf)
    clear HP3 HF3 HXX3 hp hf NC 
    have zX0 := HXX4.out.cells 0 _ rfl
    have gX0 := HXX4.out.fz 0
    go_upto_region 5 with fail
    clear zX0 gX0
    obtain ⟨w7, hw⟩ : ∃ w7, w7 = w5.setCell ⟨X, 0, none⟩ (.int .i64 19) := ⟨_, rfl⟩
    have HP5 := Lib.hid (HP4.out.local HXX4.out.out (Nat.lt_of_lt_of_le HLO.out HWX.out) 0 (.int .i64 19))
    have HF5 := Lib.hid (HF4.out.local HWX.out 0 (.int .i64 19))
    have HXX5 : Hid (Loc w7 R6 X [.int .i64 19, .int .i64 ln, .int .i64 0, .string (ofL []), .slice none 0 0]) := Lib.hid (by rw [hw]; exact HXX4.out.set 0 (.int .i64 19) (by simp))
    rw [← hw] at HP5 HF5 ⊢
    clear HP4 HF4 HXX4 hw
    have NC := Lib.hid ((nodeC P src T).nil HP5.out (19) (ln) (0) ([]) HM.out)
    have zX0 := HXX5.out.cells 0 _ rfl
    have zX1 := HXX5.out.cells 1 _ rfl
    have zX2 := HXX5.out.cells 2 _ rfl
    have zX3 := HXX5.out.cells 3 _ rfl
    have zX4 := HXX5.out.cells 4 _ rfl
    go_wp2_with fail
    refine NC.out.mono ?_
    rintro e w8 ⟨rfl, R9, hp, hf⟩
    have HP6 := Lib.hid hp
    have HF6 := Lib.hid (HF5.out.trans hf)
    have HXX6 := Lib.hid (HXX5.out.keep hf)
    clear HP5 HF5 HXX5 hp hf NC zX0 zX1 zX2 zX3 zX4
    go_wp2_with fail
    go_ret
    exact ⟨rfl, _, HP6.out, HF6.out⟩
  | false =>
    have h := HM.out
    rw [if_neg (by decide)] at h
    replace HM := Lib.hid h
    clear h
    go_wp2_with fail
    refine IC.out.mono ?_
    rintro e w10 ⟨rfl, k1⟩
    have HP3 := Lib.hid (HP2.out.keep k1)
    have HF3 := Lib.hid (HF2.out.keeps k1)
    have HXX3 := Lib.hid (HXX2.out.keeps k1)
    clear HP2 HF2 HXX2 IC k1 
    obtain ⟨b, hb, h⟩ := ask_out HM.out
    have IC := Lib.hid (is_at1 HP3.out ({ data := #[110, 101, 119] }) hb)
    replace HM := Lib.hid h
    clear h hb
    cases b with
    | true =>
      have h := HM.out
      rw [if_pos rfl] at h
      replace HM := Lib.hid h
      clear h
      go_wp2_with fail
      refine IC.out.mono ?_
      rintro e w11 ⟨rfl, k1⟩
      have HP4 := Lib.hid (HP3.out.keep k1)
      have HF4 := Lib.hid (HF3.out.keeps k1)
      have HXX4 := Lib.hid (HXX3.out.keeps k1)
      clear HP3 HF3 HXX3 IC k1 
      obtain ⟨s12, e1, h⟩ := mod_out HM.out
      have NC := Lib.hid (next_at HP4.out e1)
      replace HM := Lib.hid h
      clear h e1
      go_wp2_with fail
      refine NC.out.mono ?_
      rintro e w13 ⟨rfl, R14, hp, hf⟩
      have HP5 := Lib.hid hp
      have HF5 := Lib.hid (HF4.out.trans hf)
      have HXX5 := Lib.hid (HXX4.out.keep hf)
      clear HP4 HF4 HXX4 hp hf NC 
      have zX0 := HXX5.out.cells 0 _ rfl
      have gX0 := HXX5.out.fz 0
      go_upto_region 9 with fail
      clear zX0 gX0
      obtain ⟨w15, hw⟩ : ∃ w15, w15 = w13.setCell ⟨X, 0, none⟩ (.int .i64 20) := ⟨_, rfl⟩
      have HP6 := Lib.hid (HP5.out.local HXX5.out.out (Nat.lt_of_lt_of_le HLO.out HWX.out) 0 (.int .i64 20))
      have HF6 := Lib.hid (HF5.out.local HWX.out 0 (.int .i64 20))
      have HXX6 : Hid (Loc w15 R14 X [.int .i64 20, .int .i64 ln, .int .i64 0, .string (ofL []), .slice none 0 0]) := Lib.hid (by rw [hw]; exact HXX5.out.set 0 (.int .i64 20) (by simp))
      rw [← hw] at HP6 HF6 ⊢
      clear HP5 HF5 HXX5 hw
      obtain ⟨s16, e1, h⟩ := mod_out HM.out
      have NC := Lib.hid (want_at HP6.out ({ data := #[40] }) e1)
      replace HM := Lib.hid h
      clear h e1
      go_wp2_with fail
      refine NC.out.mono ?_
      rintro e w17 ⟨rfl, R18, hp, hf⟩
      have HP7 := Lib.hid hp
      have HF7 := Lib.hid (HF6.out.trans hf)
      have HXX7 := Lib.hid (HXX6.out.keep hf)
      clear HP6 HF6 HXX6 hp hf NC 
      obtain ⟨y, s19, hm, h⟩ := bind_out HM.out
      have NC := Lib.hid (EX _ _ _ _ _ hm HP7.out)
      replace HM := Lib.hid h
      clear h hm
      go_wp2_with fail
      refine NC.out.mono ?_
      rintro e w20 ⟨rfl, R21, hp, hf⟩
      have HP8 := Lib.hid hp
      have HF8 := Lib.hid (HF7.out.trans hf)
      have HXX8 := Lib.hid (HXX7.out.keep hf)
      clear HP7 HF7 HXX7 hp hf NC 
      obtain ⟨s22, e1, h⟩ := mod_out HM.out
      have NC := Lib.hid (want_at HP8.out ({ data := #[41] }) e1)
      replace HM := Lib.hid h
      clear h e1
      go_wp2_with fail
      refine NC.out.mono ?_
      rintro e w23 ⟨rfl, R24, hp, hf⟩
      have HP9 := Lib.hid hp
      have HF9 := Lib.hid (HF8.out.trans hf)
      have HXX9 := Lib.hid (HXX8.out.keep hf)
      clear HP8 HF8 HXX8 hp hf NC 
      have NC := Lib.hid ((nodeC P src T).one HP9.out (20) (ln) (0) ([]) y HM.out)
      have zX0 := HXX9.out.cells 0 _ rfl
      have zX1 := HXX9.out.cells 1 _ rfl
      have zX2 := HXX9.out.cells 2 _ rfl
      have zX3 := HXX9.out.cells 3 _ rfl
      have zX4 := HXX9.out.cells 4 _ rfl
      go_wp2_with fail
      refine NC.out.mono ?_
      rintro e w25 ⟨rfl, R26, hp, hf⟩
      have HP10 := Lib.hid hp
      have HF10 := Lib.hid (HF9.out.trans hf)
      have HXX10 := Lib.hid (HXX9.out.keep hf)
      clear HP9 HF9 HXX9 hp hf NC zX0 zX1 zX2 zX3 zX4
      go_wp2_with fail
      go_ret
      exact ⟨rfl, _, HP10.out, HF10.out⟩
    | false =>
      have h := HM.out
      rw [if_neg (by decide)] at h
      replace HM := Lib.hid h
      clear h
      go_wp2_with fail
      refine IC.out.mono ?_
      rintro e w27 ⟨rfl, k1⟩
      have HP4 := Lib.hid (HP3.out.keep k1)
      have HF4 := Lib.hid (HF3.out.keeps k1)
      have HXX4 := Lib.hid (HXX3.out.keeps k1)
      clear HP3 HF3 HXX3 IC k1 
      obtain ⟨b, hb, h⟩ := ask_out HM.out
      have IC := Lib.hid (calls_at HP4.out hb)
      replace HM := Lib.hid h
      clear h hb
      cases b with
      | true =>
        have h := HM.out
        rw [if_pos rfl] at h
        replace HM := Lib.hid h
        clear h
        go_wp2_with fail
        refine IC.out.mono ?_
        rintro e w28 ⟨rfl, k1⟩
        have HP5 := Lib.hid (HP4.out.keep k1)
        have HF5 := Lib.hid (HF4.out.keeps k1)
        have HXX5 := Lib.hid (HXX4.out.keeps k1)
        clear HP4 HF4 HXX4 IC k1 
        have NC := Lib.hid (CALL _ _ _ _ _ HM.out HP5.out)
        go_wp2_with fail
        refine NC.out.mono ?_
        rintro e w29 ⟨rfl, R30, hp, hf⟩
        have HP6 := Lib.hid hp
        have HF6 := Lib.hid (HF5.out.trans hf)
        have HXX6 := Lib.hid (HXX5.out.keep hf)
        clear HP5 HF5 HXX5 hp hf NC 
        go_wp2_with fail
        go_ret
        exact ⟨rfl, _, HP6.out, HF6.out⟩
      | false =>
        have h := HM.out
        rw [if_neg (by decide)] at h
        replace HM := Lib.hid h
        clear h
        go_wp2_with fail
        refine IC.out.mono ?_
        rintro e w31 ⟨rfl, k1⟩
        have HP5 := Lib.hid (HP4.out.keep k1)
        have HF5 := Lib.hid (HF4.out.keeps k1)
        have HXX5 := Lib.hid (HXX4.out.keeps k1)
        clear HP4 HF4 HXX4 IC k1 
        have NC := Lib.hid (EX _ _ _ _ _ HM.out HP5.out)
        go_wp2_with fail
        refine NC.out.mono ?_
        rintro e w32 ⟨rfl, R33, hp, hf⟩
        have HP6 := Lib.hid hp
        have HF6 := Lib.hid (HF5.out.trans hf)
        have HXX6 := Lib.hid (HXX5.out.keep hf)
        clear HP5 HF5 HXX5 hp hf NC 
        go_wp2_with fail
        go_ret
        exact ⟨rfl, _, HP6.out, HF6.out⟩

set_option maxRecDepth 100000 in
set_option maxHeartbeats 16000000 in
theorem kind_any {P : Nat} {src : ByteArray} {T : List Tok}  : ExC P src T 54 (kindM T) := by
  intro s r s' R w h hp
  have HP0 := Lib.hid hp
  have HF0 := Lib.hid (Fr.refl R w)
  have HLO := Lib.hid hp.lo
  have HM := Lib.hid h
  clear h hp
  go_enter Tryd.func54, Tryd.ntmps54
  obtain ⟨tk, htk⟩ : ∃ tk, tk = tokA T s := ⟨_, rfl⟩
  have F1 : ∀ w, Sem.run Tryd.prog (Instr.field 54 (.agg #[.int .i64 (tk.k : Int), .string (ofL tk.x), .int .i64 (tk.p : Int)]) 1) w = .ok (.string (ofL tk.x)) w := fun w => tok_field1 _ _ _ w
  have HTK := Lib.hid htk
  clear htk
  obtain ⟨b, hb, h⟩ := ask_out HM.out
  have IC := Lib.hid (is_at4 HP0.out ({ data := #[105, 110, 116] }) ({ data := #[98, 111, 111, 108] }) ({ data := #[116, 101, 120, 116] }) ({ data := #[108, 105, 115, 116] }) hb)
  replace HM := Lib.hid h
  clear h hb
  cases b with
  | true =>
    have h := HM.out
    rw [if_pos rfl] at h
    replace HM := Lib.hid h
    clear h
    go_wp2_with fail
    refine IC.out.mono ?_
    rintro e w1 ⟨rfl, k1⟩
    have HP1 := Lib.hid (HP0.out.keep k1)
    have HF1 := Lib.hid (HF0.out.keeps k1)
    clear HP0 HF0 IC k1 
    obtain ⟨t2, ht, h⟩ := ask_out HM.out
    obtain rfl : t2 = tk := ht.trans HTK.out.symm
    have NC := Lib.hid (now_at HP1.out ht)
    replace HM := Lib.hid h
    clear h ht
    go_wp2_with fail
    refine NC.out.mono ?_
    rintro e w2 ⟨rfl, k1⟩
    have HP2 := Lib.hid (HP1.out.keep k1)
    have HF2 := Lib.hid (HF1.out.keeps k1)
    clear HP1 HF1 NC k1 
    have TC : Hid (Calls Tryd.prog 81 #[.string (ofL t2.x)] w2 fun e w' => e = .returned (.int .i64 (typeN t2.x)) ∧ Keeps (fun _ => False) w2 w') := Lib.hid ((type_any (ofL t2.x) w2).mono fun e w' ⟨h1, h2⟩ => ⟨by rw [h1, ofL_list], h2 ▸ Keeps.refl _ _⟩)
    go_wp2_with fail
    refine TC.out.mono ?_
    rintro e w3 ⟨rfl, k1⟩
    have HP3 := Lib.hid (HP2.out.keep k1)
    have HF3 := Lib.hid (HF2.out.keeps k1)
    clear HP2 HF2 TC k1 
    obtain ⟨s4, e1, h⟩ := mod_out HM.out
    have NC := Lib.hid (next_at HP3.out e1)
    replace HM := Lib.hid h
    clear h e1
    go_wp2_with fail
    refine NC.out.mono ?_
    rintro e w5 ⟨rfl, R6, hp, hf⟩
    have HP4 := Lib.hid hp
    have HF4 := Lib.hid (HF3.out.trans hf)
    clear HP3 HF3 hp hf NC 
    obtain ⟨q1, q2⟩ := pure_end HM.out
    subst q1
    subst q2
    go_wp2_with fail
    go_ret
    exact ⟨rfl, _, HP4.out, HF4.out⟩
  | false =>
    have h := HM.out
    rw [if_neg (by decide)] at h
    replace HM := Lib.hid h
    clear h
    go_wp2_with fail
    refine IC.out.mono ?_
    rintro e w7 ⟨rfl, k1⟩
    have HP1 := Lib.hid (HP0.out.keep k1)
    have HF1 := Lib.hid (HF0.out.keeps k1)
    clear HP0 HF0 IC k1 
    obtain ⟨s8, e1, h⟩ := mod_out HM.out
    have NC := Lib.hid (fail_at HP1.out 20 e1)
    replace HM := Lib.hid h
    clear h e1
    go_wp2_with fail
    refine NC.out.mono ?_
    rintro e w9 ⟨rfl, R10, hp, hf⟩
    have HP2 := Lib.hid hp
    have HF2 := Lib.hid (HF1.out.trans hf)
    clear HP1 HF1 hp hf NC 
    obtain ⟨q1, q2⟩ := pure_end HM.out
    subst q1
    subst q2
    go_wp2_with fail
    go_ret
    exact ⟨rfl, _, HP2.out, HF2.out⟩

set_option maxRecDepth 100000 in
set_option maxHeartbeats 16000000 in
theorem param_any {P : Nat} {src : ByteArray} {T : List Tok} (s : PS) (x : List UInt8) (t : Int) (s' : PS) (R : Nat → Prop) (w : World) (h : paramM T s = some ((x, t), s')) (hp : Par w P src T R s) : Calls Tryd.prog 52 #[.pointer (some ⟨P, 0, none⟩)] w (Post P src T R w (.agg #[.string (ofL x), .int .i64 t]) s') := by
  have HP0 := Lib.hid hp
  have HF0 := Lib.hid (Fr.refl R w)
  have HLO := Lib.hid hp.lo
  have HM := Lib.hid h
  clear h hp
  go_enter Tryd.func52, Tryd.ntmps52
  go_upto_region 1 with fail
  have ka := Keeps.one w (.cells #[.string { data := #[] }, .int .i64 0] 59)
  obtain ⟨X, hX⟩ : ∃ X, X = w.heap.size := ⟨_, rfl⟩
  obtain ⟨w1, hw⟩ : ∃ w1, w1 = w.alloc (.cells #[.string { data := #[] }, .int .i64 0] 59) := ⟨_, rfl⟩
  have HXX1 : Hid (Loc w1 R X [.string (ofL []), .int .i64 0]) := Lib.hid (by rw [hw, hX]; exact Loc.new HP0.out.new [.string (ofL []), .int .i64 0] 59)
  have HWX : Hid (w.heap.size ≤ X) := Lib.hid (by rw [hX]; exact HF0.out.1.size)
  rw [← hX]
  rw [← hw] at ka ⊢
  have HP1 := Lib.hid (HP0.out.keep ka)
  have HF1 := Lib.hid (HF0.out.keeps ka)
  clear HP0 HF0 ka hw hX
  obtain ⟨x9, ex, h⟩ := ask_out HM.out
  obtain ⟨s2, e1, h⟩ := mod_out h
  have NC := Lib.hid (name_at HP1.out e1 ex)
  replace HM := Lib.hid h
  clear h e1 ex
  go_wp2_with fail
  refine NC.out.mono ?_
  rintro e w3 ⟨rfl, R4, hp, hf⟩
  have HP2 := Lib.hid hp
  have HF2 := Lib.hid (HF1.out.trans hf)
  have HXX2 := Lib.hid (HXX1.out.keep hf)
  clear HP1 HF1 HXX1 hp hf NC 
  obtain ⟨t9, s8, hm, h⟩ := bind_out HM.out
  have NC := Lib.hid (kind_any _ _ _ _ _ hm HP2.out)
  replace HM := Lib.hid h
  clear h hm
  go_wp2_with fail
  refine NC.out.mono ?_
  rintro e w5 ⟨rfl, R6, hp, hf⟩
  have HP3 := Lib.hid hp
  have HF3 := Lib.hid (HF2.out.trans hf)
  have HXX3 := Lib.hid (HXX2.out.keep hf)
  clear HP2 HF2 HXX2 hp hf NC 
  obtain ⟨q1, q2⟩ := pure_end HM.out
  obtain ⟨q3, q4⟩ := Prod.mk.inj q1
  subst q3
  subst q4
  subst q2
  clear q1
  have zX0 := HXX3.out.cells 0 _ rfl
  have zX1 := HXX3.out.cells 1 _ rfl
  have gX0 := HXX3.out.fz 0
  have gX1 := HXX3.out.fz 1
  go_wp2_with fail
  (try simp only [Exit.inBlock, Exit.then])
  refine bodyPost_ret (v := .agg #[.string (ofL x), .int .i64 t]) ?_ rfl ?_
  · rw [results_cell1 rfl]
    go_simp
  clear zX0 zX1 gX0 gX1
  exact ⟨rfl, _, (HP3.out.local HXX3.out.out (Nat.lt_of_lt_of_le HLO.out HWX.out) 0 _).local HXX3.out.out (Nat.lt_of_lt_of_le HLO.out HWX.out) 1 _, (HF3.out.local HWX.out 0 _).local HWX.out 1 _⟩

end Go.Proofs.YtgelggdgbmldiaaDoor
