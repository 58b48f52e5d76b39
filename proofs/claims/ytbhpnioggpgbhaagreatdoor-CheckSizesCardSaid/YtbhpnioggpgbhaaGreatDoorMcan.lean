/-
 Layer 2: right, kind, param. Written by an AI agent.
 Layer 2: choice, change. Written by an AI agent.
-/
import Derived.Test.YtbhpnioggpgbhaaGreatDoorMcam
namespace Go.Proofs.YtbhpnioggpgbhaaGreatDoor
open Go Go.RowKit Go.Shelf
set_option linter.unusedVariables false
set_option linter.unusedSimpArgs false
set_option maxRecDepth 100000 in
set_option maxHeartbeats 16000000 in
theorem right_any {P : Nat} {src : ByteArray} {T : List Tok} {N : Nat} {ex : PM Int} (hsz : src.size ≤ 1000) (EX : ExC P src T 119 ex) (CALL : ExC P src T 122 (callM src.data.toList T N ex)) : ExC P src T 123 (rightM src.data.toList T N ex) := by
 intro s r s' R w h hp
 have HP0 := Lib.hid hp
 have HF0 := Lib.hid (Fr.refl R w)
 have HLO := Lib.hid hp.lo
 have HM := Lib.hid h
 clear h hp
 go_enter Tryz.func123, Tryz.ntmps123
 obtain ⟨ln, hln, h⟩ := ask_out HM.out
 have LC := Lib.hid (line_at hsz HP0.out hln)
 replace HM := Lib.hid h
 clear h hln
 go_wp2_with fail
 refine LC.out.mono ?_
 rintro e w1 ⟨rfl, k1⟩
 have HP1 := Lib.hid (HP0.out.keep k1)
 have HF1 := Lib.hid (HF0.out.keeps k1)
 clear HP0 HF0 LC k1 
 go_upto_region 2 with fail
 have ka := Keeps.one w1 (.cells #[.int .i64 0, .int .i64 ln, .int .i64 0, .string { data := #[] }, .slice none 0 0] 41)
 obtain ⟨X, hX⟩ : ∃ X, X = w1.heap.size := ⟨_, rfl⟩
 obtain ⟨w2, hw⟩ : ∃ w2, w2 = w1.alloc (.cells #[.int .i64 0, .int .i64 ln, .int .i64 0, .string { data := #[] }, .slice none 0 0] 41) := ⟨_, rfl⟩
 have HXX2 : Hid (Loc w2 R X [.int .i64 0, .int .i64 ln, .int .i64 0, .string (ofL []), .slice none 0 0]) := Lib.hid (by rw [hw, hX]; exact Loc.new HP1.out.new [.int .i64 0, .int .i64 ln, .int .i64 0, .string (ofL []), .slice none 0 0] 41)
 have HWX : Hid (w.heap.size ≤ X) := Lib.hid (by rw [hX]; exact HF1.out.1.size)
 rw [← hX]
 rw [← hw] at ka ⊢
 have HP2 := Lib.hid (HP1.out.keep ka)
 have HF2 := Lib.hid (HF1.out.keeps ka)
 clear HP1 HF1 ka hw hX
 obtain ⟨b, hb, h⟩ := ask_out HM.out
 have IC := Lib.hid (is_at1 HP2.out ({ data := #[105, 110, 112, 117, 116] }) hb)
 replace HM := Lib.hid h
 clear h hb
 cases b with
 | true =>
  have h := HM.out
  rw [if_pos rfl] at h
  replace HM := Lib.hid h
  clear h
  go_wp2_with fail
  refine IC.out.mono ?_
  rintro e w3 ⟨rfl, k1⟩
  have HP3 := Lib.hid (HP2.out.keep k1)
  have HF3 := Lib.hid (HF2.out.keeps k1)
  have HXX3 := Lib.hid (HXX2.out.keeps k1)
  clear HP2 HF2 HXX2 IC k1 
  obtain ⟨s4, e1, h⟩ := mod_out HM.out
  have NC := Lib.hid (next_at HP3.out e1)
  replace HM := Lib.hid h
  clear h e1
  go_wp2_with fail
  refine NC.out.mono ?_
  rintro e w5 ⟨rfl, R6, hp, hf⟩
  have HP4 := Lib.hid hp
  have HF4 := Lib.hid (HF3.out.trans hf)
  have HXX4 := Lib.hid (HXX3.out.keep hf)
  clear HP3 HF3 HXX3 hp hf NC 
  have zX0 := HXX4.out.cells 0 _ rfl
  have gX0 := HXX4.out.fz 0
  go_upto_region 5 with fail
  clear zX0 gX0
  obtain ⟨w7, hw⟩ : ∃ w7, w7 = w5.setCell ⟨X, 0, none⟩ (.int .i64 19) := ⟨_, rfl⟩
  have HP5 := Lib.hid (HP4.out.local HXX4.out.out (Nat.lt_of_lt_of_le HLO.out HWX.out) 0 (.int .i64 19))
  have HF5 := Lib.hid (HF4.out.local HWX.out 0 (.int .i64 19))
  have HXX5 : Hid (Loc w7 R6 X [.int .i64 19, .int .i64 ln, .int .i64 0, .string (ofL []), .slice none 0 0]) := Lib.hid (by rw [hw]; exact HXX4.out.set 0 (.int .i64 19) (by simp))
  rw [← hw] at HP5 HF5 ⊢
  clear HP4 HF4 HXX4 hw
  have NC := Lib.hid ((nodeC P src T).nil HP5.out (19) (ln) (0) ([]) HM.out)
  have zX0 := HXX5.out.cells 0 _ rfl
  have zX1 := HXX5.out.cells 1 _ rfl
  have zX2 := HXX5.out.cells 2 _ rfl
  have zX3 := HXX5.out.cells 3 _ rfl
  have zX4 := HXX5.out.cells 4 _ rfl
  go_wp2_with fail
  refine NC.out.mono ?_
  rintro e w8 ⟨rfl, R9, hp, hf⟩
  have HP6 := Lib.hid hp
  have HF6 := Lib.hid (HF5.out.trans hf)
  have HXX6 := Lib.hid (HXX5.out.keep hf)
  clear HP5 HF5 HXX5 hp hf NC zX0 zX1 zX2 zX3 zX4
  go_wp2_with fail
  go_ret
  exact ⟨rfl, _, HP6.out, HF6.out⟩
 | false =>
  have h := HM.out
  rw [if_neg (by decide)] at h
  replace HM := Lib.hid h
  clear h
  go_wp2_with fail
  refine IC.out.mono ?_
  rintro e w10 ⟨rfl, k1⟩
  have HP3 := Lib.hid (HP2.out.keep k1)
  have HF3 := Lib.hid (HF2.out.keeps k1)
  have HXX3 := Lib.hid (HXX2.out.keeps k1)
  clear HP2 HF2 HXX2 IC k1 
  obtain ⟨b, hb, h⟩ := ask_out HM.out
  have IC := Lib.hid (is_at1 HP3.out ({ data := #[110, 101, 119] }) hb)
  replace HM := Lib.hid h
  clear h hb
  cases b with
  | true =>
   have h := HM.out
   rw [if_pos rfl] at h
   replace HM := Lib.hid h
   clear h
   go_wp2_with fail
   refine IC.out.mono ?_
   rintro e w11 ⟨rfl, k1⟩
   have HP4 := Lib.hid (HP3.out.keep k1)
   have HF4 := Lib.hid (HF3.out.keeps k1)
   have HXX4 := Lib.hid (HXX3.out.keeps k1)
   clear HP3 HF3 HXX3 IC k1 
   obtain ⟨s12, e1, h⟩ := mod_out HM.out
   have NC := Lib.hid (next_at HP4.out e1)
   replace HM := Lib.hid h
   clear h e1
   go_wp2_with fail
   refine NC.out.mono ?_
   rintro e w13 ⟨rfl, R14, hp, hf⟩
   have HP5 := Lib.hid hp
   have HF5 := Lib.hid (HF4.out.trans hf)
   have HXX5 := Lib.hid (HXX4.out.keep hf)
   clear HP4 HF4 HXX4 hp hf NC 
   have zX0 := HXX5.out.cells 0 _ rfl
   have gX0 := HXX5.out.fz 0
   go_upto_region 9 with fail
   clear zX0 gX0
   obtain ⟨w15, hw⟩ : ∃ w15, w15 = w13.setCell ⟨X, 0, none⟩ (.int .i64 20) := ⟨_, rfl⟩
   have HP6 := Lib.hid (HP5.out.local HXX5.out.out (Nat.lt_of_lt_of_le HLO.out HWX.out) 0 (.int .i64 20))
   have HF6 := Lib.hid (HF5.out.local HWX.out 0 (.int .i64 20))
   have HXX6 : Hid (Loc w15 R14 X [.int .i64 20, .int .i64 ln, .int .i64 0, .string (ofL []), .slice none 0 0]) := Lib.hid (by rw [hw]; exact HXX5.out.set 0 (.int .i64 20) (by simp))
   rw [← hw] at HP6 HF6 ⊢
   clear HP5 HF5 HXX5 hw
   obtain ⟨s16, e1, h⟩ := mod_out HM.out
   have NC := Lib.hid (want_at HP6.out ({ data := #[40] }) e1)
   replace HM := Lib.hid h
   clear h e1
   go_wp2_with fail
   refine NC.out.mono ?_
   rintro e w17 ⟨rfl, R18, hp, hf⟩
   have HP7 := Lib.hid hp
   have HF7 := Lib.hid (HF6.out.trans hf)
   have HXX7 := Lib.hid (HXX6.out.keep hf)
   clear HP6 HF6 HXX6 hp hf NC 
   obtain ⟨y, s19, hm, h⟩ := bind_out HM.out
   have NC := Lib.hid (EX _ _ _ _ _ hm HP7.out)
   replace HM := Lib.hid h
   clear h hm
   go_wp2_with fail
   refine NC.out.mono ?_
   rintro e w20 ⟨rfl, R21, hp, hf⟩
   have HP8 := Lib.hid hp
   have HF8 := Lib.hid (HF7.out.trans hf)
   have HXX8 := Lib.hid (HXX7.out.keep hf)
   clear HP7 HF7 HXX7 hp hf NC 
   obtain ⟨s22, e1, h⟩ := mod_out HM.out
   have NC := Lib.hid (want_at HP8.out ({ data := #[41] }) e1)
   replace HM := Lib.hid h
   clear h e1
   go_wp2_with fail
   refine NC.out.mono ?_
   rintro e w23 ⟨rfl, R24, hp, hf⟩
   have HP9 := Lib.hid hp
   have HF9 := Lib.hid (HF8.out.trans hf)
   have HXX9 := Lib.hid (HXX8.out.keep hf)
   clear HP8 HF8 HXX8 hp hf NC 
   have NC := Lib.hid ((nodeC P src T).one HP9.out (20) (ln) (0) ([]) y HM.out)
   have zX0 := HXX9.out.cells 0 _ rfl
   have zX1 := HXX9.out.cells 1 _ rfl
   have zX2 := HXX9.out.cells 2 _ rfl
   have zX3 := HXX9.out.cells 3 _ rfl
   have zX4 := HXX9.out.cells 4 _ rfl
   go_wp2_with fail
   refine NC.out.mono ?_
   rintro e w25 ⟨rfl, R26, hp, hf⟩
   have HP10 := Lib.hid hp
   have HF10 := Lib.hid (HF9.out.trans hf)
   have HXX10 := Lib.hid (HXX9.out.keep hf)
   clear HP9 HF9 HXX9 hp hf NC zX0 zX1 zX2 zX3 zX4
   go_wp2_with fail
   go_ret
   exact ⟨rfl, _, HP10.out, HF10.out⟩
  | false =>
   have h := HM.out
   rw [if_neg (by decide)] at h
   replace HM := Lib.hid h
   clear h
   go_wp2_with fail
   refine IC.out.mono ?_
   rintro e w27 ⟨rfl, k1⟩
   have HP4 := Lib.hid (HP3.out.keep k1)
   have HF4 := Lib.hid (HF3.out.keeps k1)
   have HXX4 := Lib.hid (HXX3.out.keeps k1)
   clear HP3 HF3 HXX3 IC k1 
   obtain ⟨b, hb, h⟩ := ask_out HM.out
   have IC := Lib.hid (calls_at HP4.out hb)
   replace HM := Lib.hid h
   clear h hb
   cases b with
   | true =>
    have h := HM.out
    rw [if_pos rfl] at h
    replace HM := Lib.hid h
    clear h
    go_wp2_with fail
    refine IC.out.mono ?_
    rintro e w28 ⟨rfl, k1⟩
    have HP5 := Lib.hid (HP4.out.keep k1)
    have HF5 := Lib.hid (HF4.out.keeps k1)
    have HXX5 := Lib.hid (HXX4.out.keeps k1)
    clear HP4 HF4 HXX4 IC k1 
    have NC := Lib.hid (CALL _ _ _ _ _ HM.out HP5.out)
    go_wp2_with fail
    refine NC.out.mono ?_
    rintro e w29 ⟨rfl, R30, hp, hf⟩
    have HP6 := Lib.hid hp
    have HF6 := Lib.hid (HF5.out.trans hf)
    have HXX6 := Lib.hid (HXX5.out.keep hf)
    clear HP5 HF5 HXX5 hp hf NC 
    go_wp2_with fail
    go_ret
    exact ⟨rfl, _, HP6.out, HF6.out⟩
   | false =>
    have h := HM.out
    rw [if_neg (by decide)] at h
    replace HM := Lib.hid h
    clear h
    go_wp2_with fail
    refine IC.out.mono ?_
    rintro e w31 ⟨rfl, k1⟩
    have HP5 := Lib.hid (HP4.out.keep k1)
    have HF5 := Lib.hid (HF4.out.keeps k1)
    have HXX5 := Lib.hid (HXX4.out.keeps k1)
    clear HP4 HF4 HXX4 IC k1 
    have NC := Lib.hid (EX _ _ _ _ _ HM.out HP5.out)
    go_wp2_with fail
    refine NC.out.mono ?_
    rintro e w32 ⟨rfl, R33, hp, hf⟩
    have HP6 := Lib.hid hp
    have HF6 := Lib.hid (HF5.out.trans hf)
    have HXX6 := Lib.hid (HXX5.out.keep hf)
    clear HP5 HF5 HXX5 hp hf NC 
    go_wp2_with fail
    go_ret
    exact ⟨rfl, _, HP6.out, HF6.out⟩
set_option maxRecDepth 100000 in
set_option maxHeartbeats 16000000 in
theorem kind_any {P : Nat} {src : ByteArray} {T : List Tok}  : ExC P src T 65 (kindM T) := by
 intro s r s' R w h hp
 have HP0 := Lib.hid hp
 have HF0 := Lib.hid (Fr.refl R w)
 have HLO := Lib.hid hp.lo
 have HM := Lib.hid h
 clear h hp
 go_enter Tryz.func65, Tryz.ntmps65
 obtain ⟨tk, htk⟩ : ∃ tk, tk = tokA T s := ⟨_, rfl⟩
 have F1 : ∀ w, Sem.run Tryz.prog (Instr.field 77 (.agg #[.int .i64 (tk.k : Int), .string (ofL tk.x), .int .i64 (tk.p : Int)]) 1) w = .ok (.string (ofL tk.x)) w := fun w => tok_field1 _ _ _ w
 have HTK := Lib.hid htk
 clear htk
 obtain ⟨b, hb, h⟩ := ask_out HM.out
 have IC := Lib.hid (is_at4 HP0.out ({ data := #[105, 110, 116] }) ({ data := #[98, 111, 111, 108] }) ({ data := #[116, 101, 120, 116] }) ({ data := #[108, 105, 115, 116] }) hb)
 replace HM := Lib.hid h
 clear h hb
 cases b with
 | true =>
  have h := HM.out
  rw [if_pos rfl] at h
  replace HM := Lib.hid h
  clear h
  go_wp2_with fail
  refine IC.out.mono ?_
  rintro e w1 ⟨rfl, k1⟩
  have HP1 := Lib.hid (HP0.out.keep k1)
  have HF1 := Lib.hid (HF0.out.keeps k1)
  clear HP0 HF0 IC k1 
  obtain ⟨t2, ht, h⟩ := ask_out HM.out
  obtain rfl : t2 = tk := ht.trans HTK.out.symm
  have NC := Lib.hid (now_at HP1.out ht)
  replace HM := Lib.hid h
  clear h ht
  go_wp2_with fail
  refine NC.out.mono ?_
  rintro e w2 ⟨rfl, k1⟩
  have HP2 := Lib.hid (HP1.out.keep k1)
  have HF2 := Lib.hid (HF1.out.keeps k1)
  clear HP1 HF1 NC k1 
  have TC : Hid (Calls Tryz.prog 93 #[.string (ofL t2.x)] w2 fun e w' => e = .returned (.int .i64 (typeN t2.x)) ∧ Keeps (fun _ => False) w2 w') := Lib.hid ((type_any (ofL t2.x) w2).mono fun e w' ⟨h1, h2⟩ => ⟨by rw [h1, ofL_list], h2 ▸ Keeps.refl _ _⟩)
  go_wp2_with fail
  refine TC.out.mono ?_
  rintro e w3 ⟨rfl, k1⟩
  have HP3 := Lib.hid (HP2.out.keep k1)
  have HF3 := Lib.hid (HF2.out.keeps k1)
  clear HP2 HF2 TC k1 
  obtain ⟨s4, e1, h⟩ := mod_out HM.out
  have NC := Lib.hid (next_at HP3.out e1)
  replace HM := Lib.hid h
  clear h e1
  go_wp2_with fail
  refine NC.out.mono ?_
  rintro e w5 ⟨rfl, R6, hp, hf⟩
  have HP4 := Lib.hid hp
  have HF4 := Lib.hid (HF3.out.trans hf)
  clear HP3 HF3 hp hf NC 
  obtain ⟨q1, q2⟩ := pure_end HM.out
  subst q1
  subst q2
  go_wp2_with fail
  go_ret
  exact ⟨rfl, _, HP4.out, HF4.out⟩
 | false =>
  have h := HM.out
  rw [if_neg (by decide)] at h
  replace HM := Lib.hid h
  clear h
  go_wp2_with fail
  refine IC.out.mono ?_
  rintro e w7 ⟨rfl, k1⟩
  have HP1 := Lib.hid (HP0.out.keep k1)
  have HF1 := Lib.hid (HF0.out.keeps k1)
  clear HP0 HF0 IC k1 
  obtain ⟨s8, e1, h⟩ := mod_out HM.out
  have NC := Lib.hid (fail_at HP1.out 20 e1)
  replace HM := Lib.hid h
  clear h e1
  go_wp2_with fail
  refine NC.out.mono ?_
  rintro e w9 ⟨rfl, R10, hp, hf⟩
  have HP2 := Lib.hid hp
  have HF2 := Lib.hid (HF1.out.trans hf)
  clear HP1 HF1 hp hf NC 
  obtain ⟨q1, q2⟩ := pure_end HM.out
  subst q1
  subst q2
  go_wp2_with fail
  go_ret
  exact ⟨rfl, _, HP2.out, HF2.out⟩
set_option maxRecDepth 100000 in
set_option maxHeartbeats 16000000 in
theorem param_any {P : Nat} {src : ByteArray} {T : List Tok} (s : PS) (x : List UInt8) (t : Int) (s' : PS) (R : Nat → Prop) (w : World) (h : paramM T s = some ((x, t), s')) (hp : Par w P src T R s) : Calls Tryz.prog 63 #[.pointer (some ⟨P, 0, none⟩)] w (Post P src T R w (.agg #[.string (ofL x), .int .i64 t]) s') := by
 have HP0 := Lib.hid hp
 have HF0 := Lib.hid (Fr.refl R w)
 have HLO := Lib.hid hp.lo
 have HM := Lib.hid h
 clear h hp
 go_enter Tryz.func63, Tryz.ntmps63
 go_upto_region 1 with fail
 have ka := Keeps.one w (.cells #[.string { data := #[] }, .int .i64 0] 69)
 obtain ⟨X, hX⟩ : ∃ X, X = w.heap.size := ⟨_, rfl⟩
 obtain ⟨w1, hw⟩ : ∃ w1, w1 = w.alloc (.cells #[.string { data := #[] }, .int .i64 0] 69) := ⟨_, rfl⟩
 have HXX1 : Hid (Loc w1 R X [.string (ofL []), .int .i64 0]) := Lib.hid (by rw [hw, hX]; exact Loc.new HP0.out.new [.string (ofL []), .int .i64 0] 69)
 have HWX : Hid (w.heap.size ≤ X) := Lib.hid (by rw [hX]; exact HF0.out.1.size)
 rw [← hX]
 rw [← hw] at ka ⊢
 have HP1 := Lib.hid (HP0.out.keep ka)
 have HF1 := Lib.hid (HF0.out.keeps ka)
 clear HP0 HF0 ka hw hX
 obtain ⟨x9, ex, h⟩ := ask_out HM.out
 obtain ⟨s2, e1, h⟩ := mod_out h
 have NC := Lib.hid (name_at HP1.out e1 ex)
 replace HM := Lib.hid h
 clear h e1 ex
 go_wp2_with fail
 refine NC.out.mono ?_
 rintro e w3 ⟨rfl, R4, hp, hf⟩
 have HP2 := Lib.hid hp
 have HF2 := Lib.hid (HF1.out.trans hf)
 have HXX2 := Lib.hid (HXX1.out.keep hf)
 clear HP1 HF1 HXX1 hp hf NC 
 obtain ⟨t9, s8, hm, h⟩ := bind_out HM.out
 have NC := Lib.hid (kind_any _ _ _ _ _ hm HP2.out)
 replace HM := Lib.hid h
 clear h hm
 go_wp2_with fail
 refine NC.out.mono ?_
 rintro e w5 ⟨rfl, R6, hp, hf⟩
 have HP3 := Lib.hid hp
 have HF3 := Lib.hid (HF2.out.trans hf)
 have HXX3 := Lib.hid (HXX2.out.keep hf)
 clear HP2 HF2 HXX2 hp hf NC 
 obtain ⟨q1, q2⟩ := pure_end HM.out
 obtain ⟨q3, q4⟩ := Prod.mk.inj q1
 subst q3
 subst q4
 subst q2
 clear q1
 have zX0 := HXX3.out.cells 0 _ rfl
 have zX1 := HXX3.out.cells 1 _ rfl
 have gX0 := HXX3.out.fz 0
 have gX1 := HXX3.out.fz 1
 go_wp2_with fail
 (try simp only [Exit.inBlock, Exit.then])
 refine bodyPost_ret (v := .agg #[.string (ofL x), .int .i64 t]) ?_ rfl ?_
 ·rw [results_cell1 rfl]
  go_simp
 clear zX0 zX1 gX0 gX1
 exact ⟨rfl, _, (HP3.out.local HXX3.out.out (Nat.lt_of_lt_of_le HLO.out HWX.out) 0 _).local HXX3.out.out (Nat.lt_of_lt_of_le HLO.out HWX.out) 1 _, (HF3.out.local HWX.out 0 _).local HWX.out 1 _⟩
end Go.Proofs.YtbhpnioggpgbhaaGreatDoor

namespace Go.Proofs.YtbhpnioggpgbhaaGreatDoor
open Go Go.RowKit Go.Shelf
set_option linter.unusedVariables false
set_option linter.unusedSimpArgs false
theorem row_of_one (w : World) (a : Int) : (w.alloc (.cells #[.int .i64 a] 3)).ownsRow 0 3 1 (.slice (some ⟨w.heap.size, 0, none⟩) 1 1) 1 (valI [a]) :=
 ⟨by simp [valI], .inr ⟨w.heap.size, 1, #[.int .i64 a], rfl, Nat.zero_le _, heap_alloc_new w _, Nat.le_refl _, by decide, rfl, by simp [valI]⟩⟩
theorem row_app {w : World} {v : Value} {n : Nat} {l : List Int} {a : Int} (h : w.ownsRow 0 3 1 v n (valI l ++ valI [a])) : w.ownsRow 0 3 1 v n (valI (l ++ [a])) := by rw [valI_append]; exact h
theorem row_out {v v5 : Value} {X B : Nat} (b5 : v5.ownBlock = v.ownBlock ∨ v5.ownBlock = some B) (hl : X < B) (h : ∀ g, v.ownBlock = some g → ¬ X = g) : ∀ g, v5.ownBlock = some g → ¬ X = g := fun g hg e => by
 rcases b5 with e5 | e5
 ·exact h g (by rw [← e5]; exact hg) e
 ·rw [e5] at hg
  cases hg
  exact absurd hl (by omega)
set_option maxRecDepth 100000 in
set_option maxHeartbeats 16000000 in
theorem choice_any {P : Nat} {src : ByteArray} {T : List Tok} {ex bl : PM Int} (EX : ExC P src T 119 ex) (BL : ExC P src T 66 bl) (ln : Int) (s : PS) (r : Int) (s' : PS) (R : Nat → Prop) (w : World) (h : choiceM T ex bl ln s = some (r, s')) (hp : Par w P src T R s) :
  Calls Tryz.prog 118 #[.pointer (some ⟨P, 0, none⟩), .agg #[.int .i64 0, .int .i64 ln, .int .i64 0, .string (ofL []), .slice none 0 0]] w (Post P src T R w (.int .i64 r) s') := by
 obtain ⟨i0, hi0, hz0, hz1, hz2⟩ := info_parts info_int
 have HP0 := Lib.hid hp
 have HF0 := Lib.hid (Fr.refl R w)
 have HLO := Lib.hid hp.lo
 have HM := Lib.hid h
 clear h hp
 go_enter Tryz.func118, Tryz.ntmps118
 go_upto_region 1 with fail
 have ka := Keeps.one w (.cells #[.int .i64 0, .int .i64 ln, .int .i64 0, .string (ofL []), .slice none 0 0] 41)
 obtain ⟨X, hX⟩ : ∃ X, X = w.heap.size := ⟨_, rfl⟩
 obtain ⟨w1, hw⟩ : ∃ w1, w1 = w.alloc (.cells #[.int .i64 0, .int .i64 ln, .int .i64 0, .string (ofL []), .slice none 0 0] 41) := ⟨_, rfl⟩
 have HXX1 : Hid (Loc w1 R X [.int .i64 0, .int .i64 ln, .int .i64 0, .string (ofL []), .slice none 0 0]) := Lib.hid (by rw [hw, hX]; exact Loc.new HP0.out.new [.int .i64 0, .int .i64 ln, .int .i64 0, .string (ofL []), .slice none 0 0] 41)
 have HWX : Hid (w.heap.size ≤ X) := Lib.hid (by rw [hX]; exact HF0.out.1.size)
 rw [← hX]
 rw [← hw] at ka ⊢
 have HP1 := Lib.hid (HP0.out.keep ka)
 have HF1 := Lib.hid (HF0.out.keeps ka)
 clear HP0 HF0 ka hw hX
 obtain ⟨s2, e1, h⟩ := mod_out HM.out
 have NC := Lib.hid (next_at HP1.out e1)
 replace HM := Lib.hid h
 clear h e1
 go_wp2_with fail
 refine NC.out.mono ?_
 rintro e w3 ⟨rfl, R4, hp, hf⟩
 have HP2 := Lib.hid hp
 have HF2 := Lib.hid (HF1.out.trans hf)
 have HXX2 := Lib.hid (HXX1.out.keep hf)
 clear HP1 HF1 HXX1 hp hf NC 
 have zX0 := HXX2.out.cells 0 _ rfl
 have gX0 := HXX2.out.fz 0
 go_upto_region 3 with fail
 clear zX0 gX0
 obtain ⟨w5, hw⟩ : ∃ w5, w5 = w3.setCell ⟨X, 0, none⟩ (.int .i64 15) := ⟨_, rfl⟩
 have HP3 := Lib.hid (HP2.out.local HXX2.out.out (Nat.lt_of_lt_of_le HLO.out HWX.out) 0 (.int .i64 15))
 have HF3 := Lib.hid (HF2.out.local HWX.out 0 (.int .i64 15))
 have HXX3 : Hid (Loc w5 R4 X [.int .i64 15, .int .i64 ln, .int .i64 0, .string (ofL []), .slice none 0 0]) := Lib.hid (by rw [hw]; exact HXX2.out.set 0 (.int .i64 15) (by simp))
 rw [← hw] at HP3 HF3 ⊢
 clear HP2 HF2 HXX2 hw
 obtain ⟨x, s6, hm, h⟩ := bind_out HM.out
 have NC := Lib.hid (EX _ _ _ _ _ hm HP3.out)
 replace HM := Lib.hid h
 clear h hm
 go_wp2_with fail
 refine NC.out.mono ?_
 rintro e w7 ⟨rfl, R8, hp, hf⟩
 have HP4 := Lib.hid hp
 have HF4 := Lib.hid (HF3.out.trans hf)
 have HXX4 := Lib.hid (HXX3.out.keep hf)
 clear HP3 HF3 HXX3 hp hf NC 
 go_upto_region 4 with fail
 have ka := Keeps.one w7 (.cells #[.int .i64 x] 3)
 obtain ⟨B10, hB⟩ : ∃ B10, B10 = w7.heap.size := ⟨_, rfl⟩
 obtain ⟨w9, hw⟩ : ∃ w9, w9 = w7.alloc (.cells #[.int .i64 x] 3) := ⟨_, rfl⟩
 have HB5 : Hid (w9.ownsRow 0 3 1 (.slice (some ⟨B10, 0, none⟩) 1 1) 1 (valI [x]) ∧ ∀ g, (Value.slice (some ⟨B10, 0, none⟩) 1 1).ownBlock = some g → ¬ R8 g ∧ w.heap.size ≤ g) := Lib.hid ⟨by rw [hw, hB]; exact row_of_one w7 x, fun g hg => by cases hg; rw [hB]; exact ⟨HP4.out.new, HF4.out.1.size⟩⟩
 rw [← hB]
 rw [← hw] at ka ⊢
 have HP5 := Lib.hid (HP4.out.keep ka)
 have HF5 := Lib.hid (HF4.out.keeps ka)
 have HXX5 := Lib.hid (HXX4.out.keeps ka)
 have HGX : Hid (∀ g, (Value.slice (some ⟨B10, 0, none⟩) 1 1).ownBlock = some g → ¬ X = g) := Lib.hid (fun g hg e => by have hg : B10 = g := Option.some.inj hg; have := HXX4.out.lt; omega)
 clear HP4 HF4 HXX4 ka hw hB
 obtain ⟨y, s11, hm, h⟩ := bind_out HM.out
 have NC := Lib.hid (BL _ _ _ _ _ hm HP5.out)
 replace HM := Lib.hid h
 clear h hm
 go_wp2_with fail
 refine NC.out.mono ?_
 rintro e w12 ⟨rfl, R13, hp, hf⟩
 have HP6 := Lib.hid hp
 have HF6 := Lib.hid (HF5.out.trans hf)
 have HXX6 := Lib.hid (HXX5.out.keep hf)
 have HB6 := Lib.hid (own_keep HB5.out.1 hf HB5.out.2)
 clear HP5 HF5 HXX5 HB5 hp hf NC 
 go_upto_region 5 with (at_builtin; refine wpList_append_atk rfl (.tmp 14) (.tmp 17) 28 rfl 0 3 i0 _ 1 8 Tryz.underlying28 hi0 hz0 hz1 hz2 (by rfl) (by omega) (.slice (some ⟨B10, 0, none⟩) 1 1) (1) (valI [x]) (by rfl) (ownsRow_keep HB6.out.1 (fun g hg => (Keeps.one w12 _).block g (own_ltk HB6.out.1 hg) (fun h => h))) ⟨w12.heap.size, 0, none⟩ 1 1 (valI [y]) (by rfl) (by rfl) (newsI y _) (valI_one _) (by omega) (by omega) (Nat.zero_le _) ?_; intro v5 w14 h5 g5 b5; obtain ⟨A15, c16, rfl⟩ := own_formk h5; have hmm := own_more HP6.out HF6.out HLO.out HB6.out.2 (Keeps.one w12 (.cells #[.int .i64 y] 3)) g5 b5; have HP7 := Lib.hid hmm.1; have HF7 := Lib.hid hmm.2.1; have HB7 : Hid (w14.ownsRow 0 3 1 (.slice A15 (1 + 1) c16) (1 + 1) (valI [x, y]) ∧ ∀ g, (Value.slice A15 (1 + 1) c16).ownBlock = some g → ¬ R13 g ∧ w.heap.size ≤ g) := Lib.hid (And.intro (row_app h5) hmm.2.2.1); have HXX7 := Lib.hid (HXX6.out.keepsR hmm.2.2.2 (fun hv => HGX.out _ hv rfl)); replace HGX : Hid (∀ g, (Value.slice A15 (1 + 1) c16).ownBlock = some g → ¬ X = g) := Lib.hid (row_out b5 (Nat.lt_of_lt_of_le HXX6.out.lt (Keeps.one w12 _).size) HGX.out); clear hmm h5 g5 b5 HP6 HF6 HXX6 HB6)
 obtain ⟨b, hb, h⟩ := ask_out HM.out
 have IC := Lib.hid (is_at1 HP7.out ({ data := #[101, 108, 115, 101] }) hb)
 replace HM := Lib.hid h
 clear h hb
 cases b with
 | true =>
  have h := HM.out
  rw [if_pos rfl] at h
  replace HM := Lib.hid h
  clear h
  go_wp2_with fail
  refine IC.out.mono ?_
  rintro e w17 ⟨rfl, k1⟩
  have HP8 := Lib.hid (HP7.out.keep k1)
  have HF8 := Lib.hid (HF7.out.keeps k1)
  have HXX8 := Lib.hid (HXX7.out.keeps k1)
  have HB8 := Lib.hid (own_keep HB7.out.1 ((Fr.refl R13 w14).keeps k1) HB7.out.2)
  clear HP7 HF7 HXX7 HB7 IC k1 
  obtain ⟨s18, e1, h⟩ := mod_out HM.out
  have NC := Lib.hid (next_at HP8.out e1)
  replace HM := Lib.hid h
  clear h e1
  go_wp2_with fail
  refine NC.out.mono ?_
  rintro e w19 ⟨rfl, R20, hp, hf⟩
  have HP9 := Lib.hid hp
  have HF9 := Lib.hid (HF8.out.trans hf)
  have HXX9 := Lib.hid (HXX8.out.keep hf)
  have HB9 := Lib.hid (own_keep HB8.out.1 hf HB8.out.2)
  clear HP8 HF8 HXX8 HB8 hp hf NC 
  obtain ⟨z, s21, hm, h⟩ := bind_out HM.out
  have NC := Lib.hid (BL _ _ _ _ _ hm HP9.out)
  replace HM := Lib.hid h
  clear h hm
  go_wp2_with fail
  refine NC.out.mono ?_
  rintro e w22 ⟨rfl, R23, hp, hf⟩
  have HP10 := Lib.hid hp
  have HF10 := Lib.hid (HF9.out.trans hf)
  have HXX10 := Lib.hid (HXX9.out.keep hf)
  have HB10 := Lib.hid (own_keep HB9.out.1 hf HB9.out.2)
  clear HP9 HF9 HXX9 HB9 hp hf NC 
  go_upto_region 8 with (at_builtin; refine wpList_append_atk rfl (.tmp 28) (.tmp 31) 28 rfl 0 3 i0 _ 1 8 Tryz.underlying28 hi0 hz0 hz1 hz2 (by rfl) (by omega) (.slice A15 2 c16) (2) (valI [x, y]) (by rfl) (ownsRow_keep HB10.out.1 (fun g hg => (Keeps.one w22 _).block g (own_ltk HB10.out.1 hg) (fun h => h))) ⟨w22.heap.size, 0, none⟩ 1 1 (valI [z]) (by rfl) (by rfl) (newsI z _) (valI_one _) (by omega) (by omega) (Nat.zero_le _) ?_; intro v5 w24 h5 g5 b5; obtain ⟨A25, c26, rfl⟩ := own_formk h5; have hmm := own_more HP10.out HF10.out HLO.out HB10.out.2 (Keeps.one w22 (.cells #[.int .i64 z] 3)) g5 b5; have HP11 := Lib.hid hmm.1; have HF11 := Lib.hid hmm.2.1; have HB11 : Hid (w24.ownsRow 0 3 1 (.slice A25 (2 + 1) c26) (2 + 1) (valI [x, y, z]) ∧ ∀ g, (Value.slice A25 (2 + 1) c26).ownBlock = some g → ¬ R23 g ∧ w.heap.size ≤ g) := Lib.hid (And.intro (row_app h5) hmm.2.2.1); have HXX11 := Lib.hid (HXX10.out.keepsR hmm.2.2.2 (fun hv => HGX.out _ hv rfl)); replace HGX : Hid (∀ g, (Value.slice A25 (2 + 1) c26).ownBlock = some g → ¬ X = g) := Lib.hid (row_out b5 (Nat.lt_of_lt_of_le HXX10.out.lt (Keeps.one w22 _).size) HGX.out); clear hmm h5 g5 b5 HP10 HF10 HXX10 HB10)
  have NC := Lib.hid ((nodeC P src T).row HP11.out (15) (ln) (0) ([]) [x, y, z] (rfl) HB11.out.1 HF11.out HLO.out HB11.out.2 HM.out)
  have zX0 := HXX11.out.cells 0 _ rfl
  have zX1 := HXX11.out.cells 1 _ rfl
  have zX2 := HXX11.out.cells 2 _ rfl
  have zX3 := HXX11.out.cells 3 _ rfl
  have zX4 := HXX11.out.cells 4 _ rfl
  go_wp2_with fail
  refine NC.out.mono ?_
  rintro e w27 ⟨rfl, R28, hp, hf⟩
  have HZ : Hid (∃ R', Par w27 P src T R' s' ∧ Fr R w R' w27) := Lib.hid ⟨_, hp, hf⟩
  clear hp hf NC zX0 zX1 zX2 zX3 zX4
  go_wp2_with fail
  go_ret
  exact ⟨rfl, HZ.out⟩
 | false =>
  have h := HM.out
  rw [if_neg (by decide)] at h
  replace HM := Lib.hid h
  clear h
  go_wp2_with fail
  refine IC.out.mono ?_
  rintro e w29 ⟨rfl, k1⟩
  have HP8 := Lib.hid (HP7.out.keep k1)
  have HF8 := Lib.hid (HF7.out.keeps k1)
  have HXX8 := Lib.hid (HXX7.out.keeps k1)
  have HB8 := Lib.hid (own_keep HB7.out.1 ((Fr.refl R13 w14).keeps k1) HB7.out.2)
  clear HP7 HF7 HXX7 HB7 IC k1 
  have NC := Lib.hid ((nodeC P src T).row HP8.out (15) (ln) (0) ([]) [x, y] (rfl) HB8.out.1 HF8.out HLO.out HB8.out.2 HM.out)
  have zX0 := HXX8.out.cells 0 _ rfl
  have zX1 := HXX8.out.cells 1 _ rfl
  have zX2 := HXX8.out.cells 2 _ rfl
  have zX3 := HXX8.out.cells 3 _ rfl
  have zX4 := HXX8.out.cells 4 _ rfl
  go_wp2_with fail
  refine NC.out.mono ?_
  rintro e w30 ⟨rfl, R31, hp, hf⟩
  have HZ : Hid (∃ R', Par w30 P src T R' s' ∧ Fr R w R' w30) := Lib.hid ⟨_, hp, hf⟩
  clear hp hf NC zX0 zX1 zX2 zX3 zX4
  go_wp2_with fail
  go_ret
  exact ⟨rfl, HZ.out⟩
set_option maxRecDepth 100000 in
set_option maxHeartbeats 16000000 in
theorem change_any {P : Nat} {src : ByteArray} {T : List Tok} {N : Nat} {ex : PM Int} (EX : ExC P src T 119 ex) (RIGHT : ExC P src T 123 (rightM src.data.toList T N ex)) (ln : Int) (s : PS) (r : Int) (s' : PS) (R : Nat → Prop) (w : World) (h : changeM src.data.toList T N ex ln s = some (r, s')) (hp : Par w P src T R s) :
  Calls Tryz.prog 124 #[.pointer (some ⟨P, 0, none⟩), .agg #[.int .i64 0, .int .i64 ln, .int .i64 0, .string (ofL []), .slice none 0 0]] w (Post P src T R w (.int .i64 r) s') := by
 have HP0 := Lib.hid hp
 have HF0 := Lib.hid (Fr.refl R w)
 have HLO := Lib.hid hp.lo
 have HM := Lib.hid h
 clear h hp
 go_enter Tryz.func124, Tryz.ntmps124
 go_upto_region 1 with fail
 have ka := Keeps.one w (.cells #[.int .i64 0, .int .i64 ln, .int .i64 0, .string (ofL []), .slice none 0 0] 41)
 obtain ⟨X, hX⟩ : ∃ X, X = w.heap.size := ⟨_, rfl⟩
 obtain ⟨w1, hw⟩ : ∃ w1, w1 = w.alloc (.cells #[.int .i64 0, .int .i64 ln, .int .i64 0, .string (ofL []), .slice none 0 0] 41) := ⟨_, rfl⟩
 have HXX1 : Hid (Loc w1 R X [.int .i64 0, .int .i64 ln, .int .i64 0, .string (ofL []), .slice none 0 0]) := Lib.hid (by rw [hw, hX]; exact Loc.new HP0.out.new [.int .i64 0, .int .i64 ln, .int .i64 0, .string (ofL []), .slice none 0 0] 41)
 have HWX : Hid (w.heap.size ≤ X) := Lib.hid (by rw [hX]; exact HF0.out.1.size)
 rw [← hX]
 rw [← hw] at ka ⊢
 have HP1 := Lib.hid (HP0.out.keep ka)
 have HF1 := Lib.hid (HF0.out.keeps ka)
 clear HP0 HF0 ka hw hX
 obtain ⟨x, ex, h⟩ := ask_out HM.out
 obtain ⟨s2, e1, h⟩ := mod_out h
 have NC := Lib.hid (name_at HP1.out e1 ex)
 replace HM := Lib.hid h
 clear h e1 ex
 go_wp2_with fail
 refine NC.out.mono ?_
 rintro e w3 ⟨rfl, R4, hp, hf⟩
 have HP2 := Lib.hid hp
 have HF2 := Lib.hid (HF1.out.trans hf)
 have HXX2 := Lib.hid (HXX1.out.keep hf)
 clear HP1 HF1 HXX1 hp hf NC 
 have zX3 := HXX2.out.cells 3 _ rfl
 have gX3 := HXX2.out.fz 3
 go_upto_region 2 with fail
 clear zX3 gX3
 obtain ⟨w5, hw⟩ : ∃ w5, w5 = w3.setCell ⟨X, 3, none⟩ (.string (ofL x)) := ⟨_, rfl⟩
 have HP3 := Lib.hid (HP2.out.local HXX2.out.out (Nat.lt_of_lt_of_le HLO.out HWX.out) 3 (.string (ofL x)))
 have HF3 := Lib.hid (HF2.out.local HWX.out 3 (.string (ofL x)))
 have HXX3 : Hid (Loc w5 R4 X [.int .i64 0, .int .i64 ln, .int .i64 0, .string (ofL x), .slice none 0 0]) := Lib.hid (by rw [hw]; exact HXX2.out.set 3 (.string (ofL x)) (by simp))
 rw [← hw] at HP3 HF3 ⊢
 clear HP2 HF2 HXX2 hw
 obtain ⟨b, hb, h⟩ := ask_out HM.out
 have IC := Lib.hid (is_at1 HP3.out ({ data := #[91] }) hb)
 replace HM := Lib.hid h
 clear h hb
 cases b with
 | true =>
  have h := HM.out
  rw [if_pos rfl] at h
  replace HM := Lib.hid h
  clear h
  go_wp2_with fail
  refine IC.out.mono ?_
  rintro e w6 ⟨rfl, k1⟩
  have HP4 := Lib.hid (HP3.out.keep k1)
  have HF4 := Lib.hid (HF3.out.keeps k1)
  have HXX4 := Lib.hid (HXX3.out.keeps k1)
  clear HP3 HF3 HXX3 IC k1 
  have zX0 := HXX4.out.cells 0 _ rfl
  have gX0 := HXX4.out.fz 0
  go_upto_region 7 with fail
  clear zX0 gX0
  obtain ⟨w7, hw⟩ : ∃ w7, w7 = w6.setCell ⟨X, 0, none⟩ (.int .i64 12) := ⟨_, rfl⟩
  have HP5 := Lib.hid (HP4.out.local HXX4.out.out (Nat.lt_of_lt_of_le HLO.out HWX.out) 0 (.int .i64 12))
  have HF5 := Lib.hid (HF4.out.local HWX.out 0 (.int .i64 12))
  have HXX5 : Hid (Loc w7 R4 X [.int .i64 12, .int .i64 ln, .int .i64 0, .string (ofL x), .slice none 0 0]) := Lib.hid (by rw [hw]; exact HXX4.out.set 0 (.int .i64 12) (by simp))
  rw [← hw] at HP5 HF5 ⊢
  clear HP4 HF4 HXX4 hw
  obtain ⟨u, s8, hm, h⟩ := bind_out HM.out
  have NC := Lib.hid (open_any HP5.out ({ data := #[91] }) hm)
  replace HM := Lib.hid h
  clear h hm
  go_wp2_with fail
  refine NC.out.mono ?_
  rintro e w9 ⟨rfl, R10, hp, hf⟩
  have HP6 := Lib.hid hp
  have HF6 := Lib.hid (HF5.out.trans hf)
  have HXX6 := Lib.hid (HXX5.out.keep hf)
  clear HP5 HF5 HXX5 hp hf NC 
  obtain ⟨y, s11, hm, h⟩ := bind_out HM.out
  have NC := Lib.hid (EX _ _ _ _ _ hm HP6.out)
  replace HM := Lib.hid h
  clear h hm
  go_wp2_with fail
  refine NC.out.mono ?_
  rintro e w12 ⟨rfl, R13, hp, hf⟩
  have HP7 := Lib.hid hp
  have HF7 := Lib.hid (HF6.out.trans hf)
  have HXX7 := Lib.hid (HXX6.out.keep hf)
  clear HP6 HF6 HXX6 hp hf NC 
  obtain ⟨u, s14, hm, h⟩ := bind_out HM.out
  have NC := Lib.hid (shut_any HP7.out ({ data := #[93] }) hm)
  replace HM := Lib.hid h
  clear h hm
  go_wp2_with fail
  refine NC.out.mono ?_
  rintro e w15 ⟨rfl, R16, hp, hf⟩
  have HP8 := Lib.hid hp
  have HF8 := Lib.hid (HF7.out.trans hf)
  have HXX8 := Lib.hid (HXX7.out.keep hf)
  clear HP7 HF7 HXX7 hp hf NC 
  obtain ⟨s17, e1, h⟩ := mod_out HM.out
  have NC := Lib.hid (want_at HP8.out ({ data := #[61] }) e1)
  replace HM := Lib.hid h
  clear h e1
  go_wp2_with fail
  refine NC.out.mono ?_
  rintro e w18 ⟨rfl, R19, hp, hf⟩
  have HP9 := Lib.hid hp
  have HF9 := Lib.hid (HF8.out.trans hf)
  have HXX9 := Lib.hid (HXX8.out.keep hf)
  clear HP8 HF8 HXX8 hp hf NC 
  have zX0 := HXX9.out.cells 0 _ rfl
  have zX1 := HXX9.out.cells 1 _ rfl
  have zX2 := HXX9.out.cells 2 _ rfl
  have zX3 := HXX9.out.cells 3 _ rfl
  have zX4 := HXX9.out.cells 4 _ rfl
  obtain ⟨z, s20, hm, h⟩ := bind_out HM.out
  have NA := Lib.hid (EX _ _ _ _ _ hm (HP9.out.keep ((Keeps.refl (fun _ => False) w18).drew)))
  replace HM := Lib.hid h
  clear h hm
  go_wp2_with fail
  refine wp_region_held_drew (S := fun w' => w'.cell? ⟨X, 0, none⟩ = some (.int .i64 12) ∧ w'.cell? ⟨X, 1, none⟩ = some (.int .i64 ln) ∧ w'.cell? ⟨X, 2, none⟩ = some (.int .i64 0) ∧ w'.cell? ⟨X, 3, none⟩ = some (.string (ofL x)) ∧ w'.cell? ⟨X, 4, none⟩ = some (.slice none 0 0)) (by kernel_rfl) (⟨zX0, zX1, zX2, zX3, zX4⟩) (fun hHeld => ?_)
  clear zX0 zX1 zX2 zX3 zX4
  have HP10 := Lib.hid (HP9.out.keep ((Keeps.refl (fun _ => False) w18).drew))
  have HF10 := Lib.hid (HF9.out.keeps ((Keeps.refl (fun _ => False) w18).drew))
  have HXX10 := Lib.hid (HXX9.out.keeps ((Keeps.refl (fun _ => False) w18).drew))
  clear HP9 HF9 HXX9 
  refine wpAnyH_take (i := 0) (v := ?_) rfl (by kernel_rfl) (by kernel_rfl) (by kernel_rfl) (fun _ _ _ h => h) (Or.inl ⟨by rfl, ?_⟩) (by assumption) ?_
  rotate_left
  ·(intro w' hSw; (try dsimp only at hSw); obtain ⟨y0, y1, y2, y3, y4⟩ := hSw; go_simp; (try (with_reducible rfl)))
  simp only [Act.put, List.getElem_toArray, List.getElem_cons_succ, List.getElem_cons_zero, List.setIfInBounds_toArray, List.set_cons_succ, List.set_cons_zero]
  refine wpAnyH_take (i := 1) (v := ?_) rfl (by kernel_rfl) (by kernel_rfl) (by kernel_rfl) (fun _ _ _ h => h) (Or.inl ⟨by rfl, ?_⟩) (by assumption) ?_
  rotate_left
  ·(intro w' hSw; (try dsimp only at hSw); obtain ⟨y0, y1, y2, y3, y4⟩ := hSw; go_simp; (try (with_reducible rfl)))
  simp only [Act.put, List.getElem_toArray, List.getElem_cons_succ, List.getElem_cons_zero, List.setIfInBounds_toArray, List.set_cons_succ, List.set_cons_zero]
  refine wpAnyH_take (i := 2) (v := ?_) rfl (by kernel_rfl) (by kernel_rfl) (by kernel_rfl) (fun _ _ _ h => h) (Or.inl ⟨by rfl, ?_⟩) (by assumption) ?_
  rotate_left
  ·(intro w' hSw; (try dsimp only at hSw); obtain ⟨y0, y1, y2, y3, y4⟩ := hSw; go_simp; (try (with_reducible rfl)))
  simp only [Act.put, List.getElem_toArray, List.getElem_cons_succ, List.getElem_cons_zero, List.setIfInBounds_toArray, List.set_cons_succ, List.set_cons_zero]
  refine wpAnyH_take (i := 3) (v := ?_) rfl (by kernel_rfl) (by kernel_rfl) (by kernel_rfl) (fun _ _ _ h => h) (Or.inl ⟨by rfl, ?_⟩) (by assumption) ?_
  rotate_left
  ·(intro w' hSw; (try dsimp only at hSw); obtain ⟨y0, y1, y2, y3, y4⟩ := hSw; go_simp; (try (with_reducible rfl)))
  simp only [Act.put, List.getElem_toArray, List.getElem_cons_succ, List.getElem_cons_zero, List.setIfInBounds_toArray, List.set_cons_succ, List.set_cons_zero]
  refine wpAnyH_ready (rs := [4]) (by kernel_rfl) (by simp) ?_
  refine AllReadyH.cons rfl (fun K hK => ?_) AllReadyH.nil
  go_simp
  (go_at_call 119; refine NA.out.mono ?_; rintro e w21 ⟨rfl, R22, hp, hf⟩; (try go_simp))
  have HP11 := Lib.hid hp
  have HF11 := Lib.hid (HF10.out.trans hf)
  have HXX11 := Lib.hid (HXX10.out.keep hf)
  clear HP10 HF10 HXX10 hp hf NA
  refine hK.out _ _ ⟨HXX11.out.cells 0 _ rfl, HXX11.out.cells 1 _ rfl, HXX11.out.cells 2 _ rfl, HXX11.out.cells 3 _ rfl, HXX11.out.cells 4 _ rfl⟩ (fun hHeld => ?_)
  clear hK K
  refine wpAnyH_ready (rs := [5]) (by kernel_rfl) (by simp) ?_
  refine AllReadyH.cons rfl (fun K hK => ?_) AllReadyH.nil
  go_simp
  have ZA := Lib.hid (HXX11.out.keeps (Keeps.one w21 (.cells #[.int .i64 y, .int .i64 z] 3)))
  refine hK.out _ _ ⟨ZA.out.cells 0 _ rfl, ZA.out.cells 1 _ rfl, ZA.out.cells 2 _ rfl, ZA.out.cells 3 _ rfl, ZA.out.cells 4 _ rfl⟩ (fun hHeld => ?_)
  clear hK K ZA
  refine wpAnyH_ready (rs := [6]) (by kernel_rfl) (by simp) ?_
  refine AllReadyH.cons rfl (fun K hK => ?_) AllReadyH.nil
  have NB := Lib.hid ((endedC P src T).two HP11.out (12) (ln) (0) (x) y z HM.out)
  go_simp
  (go_at_call 121; refine NB.out.mono ?_; rintro e w23 ⟨rfl, R24, hp, hf⟩; (try go_simp))
  have HP12 := Lib.hid hp
  have HF12 := Lib.hid (HF11.out.trans hf)
  have HXX12 := Lib.hid (HXX11.out.keep hf)
  clear HP11 HF11 HXX11 hp hf NB
  refine hK.out _ _ ⟨HXX12.out.cells 0 _ rfl, HXX12.out.cells 1 _ rfl, HXX12.out.cells 2 _ rfl, HXX12.out.cells 3 _ rfl, HXX12.out.cells 4 _ rfl⟩ (fun hHeld => ?_)
  clear hK K
  refine wpAnyH_take (i := 7) (v := ?_) rfl (by kernel_rfl) (by kernel_rfl) (by kernel_rfl) (fun _ _ _ h => h) (Or.inl ⟨by rfl, ?_⟩) (by assumption) ?_
  rotate_left
  ·(intro w' hSw; (try dsimp only at hSw); obtain ⟨y0, y1, y2, y3, y4⟩ := hSw; go_simp; (try (with_reducible rfl)))
  simp only [Act.put, List.getElem_toArray, List.getElem_cons_succ, List.getElem_cons_zero, List.setIfInBounds_toArray, List.set_cons_succ, List.set_cons_zero]
  refine wpAnyH_done (by kernel_rfl) ?_ _
  clear hHeld
  go_wp2_with fail
  go_ret
  exact ⟨rfl, _, HP12.out, HF12.out⟩
 | false =>
  have h := HM.out
  rw [if_neg (by decide)] at h
  replace HM := Lib.hid h
  clear h
  go_wp2_with fail
  refine IC.out.mono ?_
  rintro e w25 ⟨rfl, k1⟩
  have HP4 := Lib.hid (HP3.out.keep k1)
  have HF4 := Lib.hid (HF3.out.keeps k1)
  have HXX4 := Lib.hid (HXX3.out.keeps k1)
  clear HP3 HF3 HXX3 IC k1 
  have zX0 := HXX4.out.cells 0 _ rfl
  have gX0 := HXX4.out.fz 0
  go_upto_region 4 with fail
  clear zX0 gX0
  obtain ⟨w26, hw⟩ : ∃ w26, w26 = w25.setCell ⟨X, 0, none⟩ (.int .i64 11) := ⟨_, rfl⟩
  have HP5 := Lib.hid (HP4.out.local HXX4.out.out (Nat.lt_of_lt_of_le HLO.out HWX.out) 0 (.int .i64 11))
  have HF5 := Lib.hid (HF4.out.local HWX.out 0 (.int .i64 11))
  have HXX5 : Hid (Loc w26 R4 X [.int .i64 11, .int .i64 ln, .int .i64 0, .string (ofL x), .slice none 0 0]) := Lib.hid (by rw [hw]; exact HXX4.out.set 0 (.int .i64 11) (by simp))
  rw [← hw] at HP5 HF5 ⊢
  clear HP4 HF4 HXX4 hw
  obtain ⟨s27, e1, h⟩ := mod_out HM.out
  have NC := Lib.hid (want_at HP5.out ({ data := #[61] }) e1)
  replace HM := Lib.hid h
  clear h e1
  go_wp2_with fail
  refine NC.out.mono ?_
  rintro e w28 ⟨rfl, R29, hp, hf⟩
  have HP6 := Lib.hid hp
  have HF6 := Lib.hid (HF5.out.trans hf)
  have HXX6 := Lib.hid (HXX5.out.keep hf)
  clear HP5 HF5 HXX5 hp hf NC 
  have zX0 := HXX6.out.cells 0 _ rfl
  have zX1 := HXX6.out.cells 1 _ rfl
  have zX2 := HXX6.out.cells 2 _ rfl
  have zX3 := HXX6.out.cells 3 _ rfl
  have zX4 := HXX6.out.cells 4 _ rfl
  obtain ⟨y, s30, hm, h⟩ := bind_out HM.out
  have NA := Lib.hid (RIGHT _ _ _ _ _ hm (HP6.out.keep ((Keeps.refl (fun _ => False) w28).drew)))
  replace HM := Lib.hid h
  clear h hm
  go_wp2_with fail
  refine wp_region_held_drew (S := fun w' => w'.cell? ⟨X, 0, none⟩ = some (.int .i64 11) ∧ w'.cell? ⟨X, 1, none⟩ = some (.int .i64 ln) ∧ w'.cell? ⟨X, 2, none⟩ = some (.int .i64 0) ∧ w'.cell? ⟨X, 3, none⟩ = some (.string (ofL x)) ∧ w'.cell? ⟨X, 4, none⟩ = some (.slice none 0 0)) (by kernel_rfl) (⟨zX0, zX1, zX2, zX3, zX4⟩) (fun hHeld => ?_)
  clear zX0 zX1 zX2 zX3 zX4
  have HP7 := Lib.hid (HP6.out.keep ((Keeps.refl (fun _ => False) w28).drew))
  have HF7 := Lib.hid (HF6.out.keeps ((Keeps.refl (fun _ => False) w28).drew))
  have HXX7 := Lib.hid (HXX6.out.keeps ((Keeps.refl (fun _ => False) w28).drew))
  clear HP6 HF6 HXX6 
  refine wpAnyH_take (i := 0) (v := ?_) rfl (by kernel_rfl) (by kernel_rfl) (by kernel_rfl) (fun _ _ _ h => h) (Or.inl ⟨by rfl, ?_⟩) (by assumption) ?_
  rotate_left
  ·(intro w' hSw; (try dsimp only at hSw); obtain ⟨y0, y1, y2, y3, y4⟩ := hSw; go_simp; (try (with_reducible rfl)))
  simp only [Act.put, List.getElem_toArray, List.getElem_cons_succ, List.getElem_cons_zero, List.setIfInBounds_toArray, List.set_cons_succ, List.set_cons_zero]
  refine wpAnyH_take (i := 1) (v := ?_) rfl (by kernel_rfl) (by kernel_rfl) (by kernel_rfl) (fun _ _ _ h => h) (Or.inl ⟨by rfl, ?_⟩) (by assumption) ?_
  rotate_left
  ·(intro w' hSw; (try dsimp only at hSw); obtain ⟨y0, y1, y2, y3, y4⟩ := hSw; go_simp; (try (with_reducible rfl)))
  simp only [Act.put, List.getElem_toArray, List.getElem_cons_succ, List.getElem_cons_zero, List.setIfInBounds_toArray, List.set_cons_succ, List.set_cons_zero]
  refine wpAnyH_take (i := 2) (v := ?_) rfl (by kernel_rfl) (by kernel_rfl) (by kernel_rfl) (fun _ _ _ h => h) (Or.inl ⟨by rfl, ?_⟩) (by assumption) ?_
  rotate_left
  ·(intro w' hSw; (try dsimp only at hSw); obtain ⟨y0, y1, y2, y3, y4⟩ := hSw; go_simp; (try (with_reducible rfl)))
  simp only [Act.put, List.getElem_toArray, List.getElem_cons_succ, List.getElem_cons_zero, List.setIfInBounds_toArray, List.set_cons_succ, List.set_cons_zero]
  refine wpAnyH_ready (rs := [3]) (by kernel_rfl) (by simp) ?_
  refine AllReadyH.cons rfl (fun K hK => ?_) AllReadyH.nil
  go_simp
  (go_at_call 123; refine NA.out.mono ?_; rintro e w31 ⟨rfl, R32, hp, hf⟩; (try go_simp))
  have HP8 := Lib.hid hp
  have HF8 := Lib.hid (HF7.out.trans hf)
  have HXX8 := Lib.hid (HXX7.out.keep hf)
  clear HP7 HF7 HXX7 hp hf NA
  refine hK.out _ _ ⟨HXX8.out.cells 0 _ rfl, HXX8.out.cells 1 _ rfl, HXX8.out.cells 2 _ rfl, HXX8.out.cells 3 _ rfl, HXX8.out.cells 4 _ rfl⟩ (fun hHeld => ?_)
  clear hK K
  refine wpAnyH_ready (rs := [4]) (by kernel_rfl) (by simp) ?_
  refine AllReadyH.cons rfl (fun K hK => ?_) AllReadyH.nil
  go_simp
  have ZA := Lib.hid (HXX8.out.keeps (Keeps.one w31 (.cells #[.int .i64 y] 3)))
  refine hK.out _ _ ⟨ZA.out.cells 0 _ rfl, ZA.out.cells 1 _ rfl, ZA.out.cells 2 _ rfl, ZA.out.cells 3 _ rfl, ZA.out.cells 4 _ rfl⟩ (fun hHeld => ?_)
  clear hK K ZA
  refine wpAnyH_ready (rs := [5]) (by kernel_rfl) (by simp) ?_
  refine AllReadyH.cons rfl (fun K hK => ?_) AllReadyH.nil
  have NB := Lib.hid ((endedC P src T).one HP8.out (11) (ln) (0) (x) y HM.out)
  go_simp
  (go_at_call 121; refine NB.out.mono ?_; rintro e w33 ⟨rfl, R34, hp, hf⟩; (try go_simp))
  have HP9 := Lib.hid hp
  have HF9 := Lib.hid (HF8.out.trans hf)
  have HXX9 := Lib.hid (HXX8.out.keep hf)
  clear HP8 HF8 HXX8 hp hf NB
  refine hK.out _ _ ⟨HXX9.out.cells 0 _ rfl, HXX9.out.cells 1 _ rfl, HXX9.out.cells 2 _ rfl, HXX9.out.cells 3 _ rfl, HXX9.out.cells 4 _ rfl⟩ (fun hHeld => ?_)
  clear hK K
  refine wpAnyH_take (i := 6) (v := ?_) rfl (by kernel_rfl) (by kernel_rfl) (by kernel_rfl) (fun _ _ _ h => h) (Or.inl ⟨by rfl, ?_⟩) (by assumption) ?_
  rotate_left
  ·(intro w' hSw; (try dsimp only at hSw); obtain ⟨y0, y1, y2, y3, y4⟩ := hSw; go_simp; (try (with_reducible rfl)))
  simp only [Act.put, List.getElem_toArray, List.getElem_cons_succ, List.getElem_cons_zero, List.setIfInBounds_toArray, List.set_cons_succ, List.set_cons_zero]
  refine wpAnyH_done (by kernel_rfl) ?_ _
  clear hHeld
  go_wp2_with fail
  go_ret
  exact ⟨rfl, _, HP9.out, HF9.out⟩
end Go.Proofs.YtbhpnioggpgbhaaGreatDoor
