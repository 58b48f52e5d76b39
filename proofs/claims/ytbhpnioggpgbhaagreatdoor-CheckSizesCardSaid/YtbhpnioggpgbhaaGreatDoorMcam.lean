/-
 Layer 2: atom. Written by an AI agent.
 Layer 2: factor, ended. Written by an AI agent.
-/
import Derived.Test.YtbhpnioggpgbhaaGreatDoorMcal
namespace Go.Proofs.YtbhpnioggpgbhaaGreatDoor
open Go Go.RowKit Go.Shelf
set_option linter.unusedVariables false
set_option linter.unusedSimpArgs false
theorem pint_any (x : List UInt8) (hl : x.length ≤ 1000) (hne : x ≠ []) (hd : ∀ c ∈ x, dig c = true) (hv : numV x ≤ 9223372036854775807) (w : World) :
  Calls Tryz.prog 112 #[.string (ofL x), .int .i64 10, .int .i64 64] w fun e w' => e = .returned (.tuple #[.int .i64 (intV x), .nilIface]) ∧ Keeps (fun _ => False) w w' := by
 have e := ofL_list x
 have hp := parse_digits (ofL x).data.toList (by rw [e]; exact hne) (by rw [e]; exact hd)
 rw [if_pos (by rw [e]; exact hv), e] at hp
 unfold intV
 rw [if_pos hv]
 exact (Any.strconv_ParseInt_10_at64_ok laysParseInt (ofL x) (by rw [ofL_size]; omega) _ (by rw [e]; exact hp) w).mono fun e w' ⟨e1, e2⟩ => ⟨e1, keeps_bytes w _ (ofL x) w' e2⟩
set_option maxRecDepth 100000 in
set_option maxHeartbeats 16000000 in
theorem atom_any {P : Nat} {src : ByteArray} {T : List Tok} {ex : PM Int} (hsz : src.size ≤ 1000) (EX : ExC P src T 119 ex) : ExC P src T 161 (atomM src.data.toList T ex) := by
 intro s r s' R w h hp
 have HP0 := Lib.hid hp
 have HF0 := Lib.hid (Fr.refl R w)
 have HLO := Lib.hid hp.lo
 have HM := Lib.hid h
 clear h hp
 go_enter Tryz.func161, Tryz.ntmps161
 obtain ⟨ln, hln, h⟩ := ask_out HM.out
 have LC := Lib.hid (line_at hsz HP0.out hln)
 replace HM := Lib.hid h
 clear h hln
 go_wp2_with fail
 refine LC.out.mono ?_
 rintro e w1 ⟨rfl, k1⟩
 have HP1 := Lib.hid (HP0.out.keep k1)
 have HF1 := Lib.hid (HF0.out.keeps k1)
 clear HP0 HF0 LC k1 
 go_upto_region 2 with fail
 have ka := Keeps.one w1 (.cells #[.int .i64 0, .int .i64 ln, .int .i64 0, .string { data := #[] }, .slice none 0 0] 41)
 obtain ⟨X, hX⟩ : ∃ X, X = w1.heap.size := ⟨_, rfl⟩
 obtain ⟨w2, hw⟩ : ∃ w2, w2 = w1.alloc (.cells #[.int .i64 0, .int .i64 ln, .int .i64 0, .string { data := #[] }, .slice none 0 0] 41) := ⟨_, rfl⟩
 have HXX2 : Hid (Loc w2 R X [.int .i64 0, .int .i64 ln, .int .i64 0, .string (ofL []), .slice none 0 0]) := Lib.hid (by rw [hw, hX]; exact Loc.new HP1.out.new [.int .i64 0, .int .i64 ln, .int .i64 0, .string (ofL []), .slice none 0 0] 41)
 have HWX : Hid (w.heap.size ≤ X) := Lib.hid (by rw [hX]; exact HF1.out.1.size)
 rw [← hX]
 rw [← hw] at ka ⊢
 have HP2 := Lib.hid (HP1.out.keep ka)
 have HF2 := Lib.hid (HF1.out.keeps ka)
 clear HP1 HF1 ka hw hX
 have HT : Hid (TokOK T) := Lib.hid HP2.out.ok
 have HI : Hid (s.i < T.length) := Lib.hid HP2.out.hi
 obtain ⟨tk, ht, h⟩ := ask_out HM.out
 have NC := Lib.hid (now_at HP2.out ht)
 have HTK := Lib.hid ht
 replace HM := Lib.hid h
 clear h ht
 go_wp2_with fail
 refine NC.out.mono ?_
 rintro e w3 ⟨rfl, k1⟩
 have HP3 := Lib.hid (HP2.out.keep k1)
 have HF3 := Lib.hid (HF2.out.keeps k1)
 have HXX3 := Lib.hid (HXX2.out.keeps k1)
 clear HP2 HF2 HXX2 NC k1 
 go_upto_region 4 with fail
 have ka := Keeps.one w3 (.cells #[.int .i64 (tk.k : Int), .string (ofL tk.x), .int .i64 (tk.p : Int)] 77)
 obtain ⟨Y, hY⟩ : ∃ Y, Y = w3.heap.size := ⟨_, rfl⟩
 obtain ⟨w4, hw⟩ : ∃ w4, w4 = w3.alloc (.cells #[.int .i64 (tk.k : Int), .string (ofL tk.x), .int .i64 (tk.p : Int)] 77) := ⟨_, rfl⟩
 have HXY4 : Hid (Loc w4 R Y [.int .i64 (tk.k : Int), .string (ofL tk.x), .int .i64 (tk.p : Int)]) := Lib.hid (by rw [hw, hY]; exact Loc.new HP3.out.new [.int .i64 (tk.k : Int), .string (ofL tk.x), .int .i64 (tk.p : Int)] 77)
 have HWY : Hid (w.heap.size ≤ Y) := Lib.hid (by rw [hY]; exact HF3.out.1.size)
 rw [← hY]
 rw [← hw] at ka ⊢
 have HP4 := Lib.hid (HP3.out.keep ka)
 have HF4 := Lib.hid (HF3.out.keeps ka)
 have HXX4 := Lib.hid (HXX3.out.keeps ka)
 have HNYX : Hid (¬ Y = X) := Lib.hid (fun e => by have := HXX3.out.lt; omega)
 have HNXY : Hid (¬ X = Y) := Lib.hid (fun e => by have := HXX3.out.lt; omega)
 clear HP3 HF3 HXX3 ka hw hY
 by_cases hk : tk.k = 1
 ·have h := HM.out
  rw [if_pos hk] at h
  replace HM := Lib.hid h
  clear h
  have zY0 := HXY4.out.cells 0 _ rfl
  rw [show ((tk.k : Nat) : Int) = 1 by rw [hk]; rfl] at zY0
  have HK := Lib.hid hk
  clear hk
  have zY1 := HXY4.out.cells 1 _ rfl
  have PC : Hid (Calls Tryz.prog 112 #[.string (ofL tk.x), .int .i64 10, .int .i64 64] w4 fun e w' => e = .returned (.tuple #[.int .i64 (intV tk.x), .nilIface]) ∧ Keeps (fun _ => False) w4 w') := Lib.hid (by
   have e : tk = T.getD s.i default := HTK.out
   have h1 := HT.out.num s.i HI.out (by rw [← e]; exact HK.out)
   have h2 := HT.out.long s.i HI.out
   rw [← e] at h1 h2
   exact pint_any tk.x h2 h1.1 h1.2.1 h1.2.2 _)
  clear HTK HT HI HK
  go_wp2_with fail
  refine PC.out.mono ?_
  rintro e w5 ⟨rfl, k1⟩
  have HP5 := Lib.hid (HP4.out.keep k1)
  have HF5 := Lib.hid (HF4.out.keeps k1)
  have HXX5 := Lib.hid (HXX4.out.keeps k1)
  have HXY5 := Lib.hid (HXY4.out.keeps k1)
  clear HP4 HF4 HXX4 HXY4 PC k1 zY0 zY1
  have zX0 := HXX5.out.cells 0 _ rfl
  have zX2 := HXX5.out.cells 2 _ rfl
  have gX0 := HXX5.out.fz 0
  have gX2 := HXX5.out.fz 2
  go_upto_region 19 with fail
  clear zX0 zX2 gX0 gX2
  obtain ⟨w6, hw⟩ : ∃ w6, w6 = w5.setCell ⟨X, 0, none⟩ (.int .i64 1) := ⟨_, rfl⟩
  have HP6 := Lib.hid (HP5.out.local HXX5.out.out (Nat.lt_of_lt_of_le HLO.out HWX.out) 0 (.int .i64 1))
  have HF6 := Lib.hid (HF5.out.local HWX.out 0 (.int .i64 1))
  have HXX6 : Hid (Loc w6 R X [.int .i64 1, .int .i64 ln, .int .i64 0, .string (ofL []), .slice none 0 0]) := Lib.hid (by rw [hw]; exact HXX5.out.set 0 (.int .i64 1) (by simp))
  rw [← hw] at HP6 HF6 ⊢
  have HXY6 : Hid (Loc w6 R Y [.int .i64 (tk.k : Int), .string (ofL tk.x), .int .i64 (tk.p : Int)]) := Lib.hid (by rw [hw]; exact HXY5.out.keepsR (S := fun b => b = X) ((Keeps.refl (fun b => b = X) w5).setCell (p := ⟨X, 0, none⟩) (fun _ => rfl) _) HNYX.out)
  clear HP5 HF5 HXX5 HXY5 hw
  obtain ⟨w7, hw⟩ : ∃ w7, w7 = w6.setCell ⟨X, 2, none⟩ (.int .i64 (intV tk.x)) := ⟨_, rfl⟩
  have HP7 := Lib.hid (HP6.out.local HXX6.out.out (Nat.lt_of_lt_of_le HLO.out HWX.out) 2 (.int .i64 (intV tk.x)))
  have HF7 := Lib.hid (HF6.out.local HWX.out 2 (.int .i64 (intV tk.x)))
  have HXX7 : Hid (Loc w7 R X [.int .i64 1, .int .i64 ln, .int .i64 (intV tk.x), .string (ofL []), .slice none 0 0]) := Lib.hid (by rw [hw]; exact HXX6.out.set 2 (.int .i64 (intV tk.x)) (by simp))
  rw [← hw] at HP7 HF7 ⊢
  have HXY7 : Hid (Loc w7 R Y [.int .i64 (tk.k : Int), .string (ofL tk.x), .int .i64 (tk.p : Int)]) := Lib.hid (by rw [hw]; exact HXY6.out.keepsR (S := fun b => b = X) ((Keeps.refl (fun b => b = X) w6).setCell (p := ⟨X, 2, none⟩) (fun _ => rfl) _) HNYX.out)
  clear HP6 HF6 HXX6 HXY6 hw
  obtain ⟨s8, e1, h⟩ := mod_out HM.out
  have NC := Lib.hid (next_at HP7.out e1)
  replace HM := Lib.hid h
  clear h e1
  go_wp2_with fail
  refine NC.out.mono ?_
  rintro e w9 ⟨rfl, R10, hp, hf⟩
  have HP8 := Lib.hid hp
  have HF8 := Lib.hid (HF7.out.trans hf)
  have HXX8 := Lib.hid (HXX7.out.keep hf)
  have HXY8 := Lib.hid (HXY7.out.keep hf)
  clear HP7 HF7 HXX7 HXY7 hp hf NC 
  have NC := Lib.hid ((nodeC P src T).nil HP8.out (1) (ln) ((intV tk.x)) ([]) HM.out)
  have zX0 := HXX8.out.cells 0 _ rfl
  have zX1 := HXX8.out.cells 1 _ rfl
  have zX2 := HXX8.out.cells 2 _ rfl
  have zX3 := HXX8.out.cells 3 _ rfl
  have zX4 := HXX8.out.cells 4 _ rfl
  go_wp2_with fail
  refine NC.out.mono ?_
  rintro e w11 ⟨rfl, R12, hp, hf⟩
  have HP9 := Lib.hid hp
  have HF9 := Lib.hid (HF8.out.trans hf)
  have HXX9 := Lib.hid (HXX8.out.keep hf)
  have HXY9 := Lib.hid (HXY8.out.keep hf)
  clear HP8 HF8 HXX8 HXY8 hp hf NC zX0 zX1 zX2 zX3 zX4
  go_wp2_with fail
  go_ret
  exact ⟨rfl, _, HP9.out, HF9.out⟩
 ·have h := HM.out
  rw [if_neg hk] at h
  replace HM := Lib.hid h
  clear h
  have hk1 : ((tk.k : Int) == 1) = false := by simp; omega
  clear hk
  by_cases hk : tk.k = 2
  ·have h := HM.out
   rw [if_pos hk] at h
   replace HM := Lib.hid h
   clear h
   have zY0 := HXY4.out.cells 0 _ rfl
   rw [show ((tk.k : Nat) : Int) = 2 by rw [hk]; rfl] at zY0
   have HK := Lib.hid hk
   clear hk
   clear HTK HT HI HK
   have zY1 := HXY4.out.cells 1 _ rfl
   have zX0 := HXX4.out.cells 0 _ rfl
   have zX3 := HXX4.out.cells 3 _ rfl
   have gX0 := HXX4.out.fz 0
   have gX3 := HXX4.out.fz 3
   go_upto_region 8 with fail
   go_region
   clear zY0 zY1 zX0 zX3 gX0 gX3
   obtain ⟨w13, hw⟩ : ∃ w13, w13 = w4.setCell ⟨X, 0, none⟩ (.int .i64 3) := ⟨_, rfl⟩
   have HP5 := Lib.hid (HP4.out.local HXX4.out.out (Nat.lt_of_lt_of_le HLO.out HWX.out) 0 (.int .i64 3))
   have HF5 := Lib.hid (HF4.out.local HWX.out 0 (.int .i64 3))
   have HXX5 : Hid (Loc w13 R X [.int .i64 3, .int .i64 ln, .int .i64 0, .string (ofL []), .slice none 0 0]) := Lib.hid (by rw [hw]; exact HXX4.out.set 0 (.int .i64 3) (by simp))
   rw [← hw] at HP5 HF5 ⊢
   have HXY5 : Hid (Loc w13 R Y [.int .i64 (tk.k : Int), .string (ofL tk.x), .int .i64 (tk.p : Int)]) := Lib.hid (by rw [hw]; exact HXY4.out.keepsR (S := fun b => b = X) ((Keeps.refl (fun b => b = X) w4).setCell (p := ⟨X, 0, none⟩) (fun _ => rfl) _) HNYX.out)
   clear HP4 HF4 HXX4 HXY4 hw
   obtain ⟨w14, hw⟩ : ∃ w14, w14 = w13.setCell ⟨X, 3, none⟩ (.string (ofL tk.x)) := ⟨_, rfl⟩
   have HP6 := Lib.hid (HP5.out.local HXX5.out.out (Nat.lt_of_lt_of_le HLO.out HWX.out) 3 (.string (ofL tk.x)))
   have HF6 := Lib.hid (HF5.out.local HWX.out 3 (.string (ofL tk.x)))
   have HXX6 : Hid (Loc w14 R X [.int .i64 3, .int .i64 ln, .int .i64 0, .string (ofL tk.x), .slice none 0 0]) := Lib.hid (by rw [hw]; exact HXX5.out.set 3 (.string (ofL tk.x)) (by simp))
   rw [← hw] at HP6 HF6 ⊢
   have HXY6 : Hid (Loc w14 R Y [.int .i64 (tk.k : Int), .string (ofL tk.x), .int .i64 (tk.p : Int)]) := Lib.hid (by rw [hw]; exact HXY5.out.keepsR (S := fun b => b = X) ((Keeps.refl (fun b => b = X) w13).setCell (p := ⟨X, 3, none⟩) (fun _ => rfl) _) HNYX.out)
   clear HP5 HF5 HXX5 HXY5 hw
   have k1 : Keeps (fun _ => False) w14 w14.drew := (Keeps.refl (fun _ => False) w14).drew
   generalize w14.drew = w15 at k1 ⊢
   have HP7 := Lib.hid (HP6.out.keep k1)
   have HF7 := Lib.hid (HF6.out.keeps k1)
   have HXX7 := Lib.hid (HXX6.out.keeps k1)
   have HXY7 := Lib.hid (HXY6.out.keeps k1)
   clear HP6 HF6 HXX6 HXY6 k1
   obtain ⟨s16, e1, h⟩ := mod_out HM.out
   have NC := Lib.hid (next_at HP7.out e1)
   replace HM := Lib.hid h
   clear h e1
   go_wp2_with fail
   refine NC.out.mono ?_
   rintro e w17 ⟨rfl, R18, hp, hf⟩
   have HP8 := Lib.hid hp
   have HF8 := Lib.hid (HF7.out.trans hf)
   have HXX8 := Lib.hid (HXX7.out.keep hf)
   have HXY8 := Lib.hid (HXY7.out.keep hf)
   clear HP7 HF7 HXX7 HXY7 hp hf NC 
   have NC := Lib.hid ((nodeC P src T).nil HP8.out (3) (ln) (0) (tk.x) HM.out)
   have zX0 := HXX8.out.cells 0 _ rfl
   have zX1 := HXX8.out.cells 1 _ rfl
   have zX2 := HXX8.out.cells 2 _ rfl
   have zX3 := HXX8.out.cells 3 _ rfl
   have zX4 := HXX8.out.cells 4 _ rfl
   go_wp2_with fail
   refine NC.out.mono ?_
   rintro e w19 ⟨rfl, R20, hp, hf⟩
   have HP9 := Lib.hid hp
   have HF9 := Lib.hid (HF8.out.trans hf)
   have HXX9 := Lib.hid (HXX8.out.keep hf)
   have HXY9 := Lib.hid (HXY8.out.keep hf)
   clear HP8 HF8 HXX8 HXY8 hp hf NC zX0 zX1 zX2 zX3 zX4
   go_wp2_with fail
   go_ret
   exact ⟨rfl, _, HP9.out, HF9.out⟩
  ·have h := HM.out
   rw [if_neg hk] at h
   replace HM := Lib.hid h
   clear h
   have hk2 : ((tk.k : Int) == 2) = false := by simp; omega
   clear hk
   clear HTK HT HI
   have zY0 := HXY4.out.cells 0 _ rfl
   obtain ⟨b, hb, h⟩ := ask_out HM.out
   have IC := Lib.hid (is_at2 HP4.out ({ data := #[116, 114, 117, 101] }) ({ data := #[102, 97, 108, 115, 101] }) hb)
   replace HM := Lib.hid h
   clear h hb
   cases b with
   | true =>
    have h := HM.out
    rw [if_pos rfl] at h
    replace HM := Lib.hid h
    clear h
    go_wp2_with fail
    refine IC.out.mono ?_
    rintro e w21 ⟨rfl, k1⟩
    have HP5 := Lib.hid (HP4.out.keep k1)
    have HF5 := Lib.hid (HF4.out.keeps k1)
    have HXX5 := Lib.hid (HXX4.out.keeps k1)
    have HXY5 := Lib.hid (HXY4.out.keeps k1)
    clear HP4 HF4 HXX4 HXY4 IC k1 
    clear hk1 hk2
    have zX0 := HXX5.out.cells 0 _ rfl
    have gX0 := HXX5.out.fz 0
    go_upto_region 11 with fail
    clear zX0 gX0
    obtain ⟨w22, hw⟩ : ∃ w22, w22 = w21.setCell ⟨X, 0, none⟩ (.int .i64 2) := ⟨_, rfl⟩
    have HP6 := Lib.hid (HP5.out.local HXX5.out.out (Nat.lt_of_lt_of_le HLO.out HWX.out) 0 (.int .i64 2))
    have HF6 := Lib.hid (HF5.out.local HWX.out 0 (.int .i64 2))
    have HXX6 : Hid (Loc w22 R X [.int .i64 2, .int .i64 ln, .int .i64 0, .string (ofL []), .slice none 0 0]) := Lib.hid (by rw [hw]; exact HXX5.out.set 0 (.int .i64 2) (by simp))
    rw [← hw] at HP6 HF6 ⊢
    have HXY6 : Hid (Loc w22 R Y [.int .i64 (tk.k : Int), .string (ofL tk.x), .int .i64 (tk.p : Int)]) := Lib.hid (by rw [hw]; exact HXY5.out.keepsR (S := fun b => b = X) ((Keeps.refl (fun b => b = X) w21).setCell (p := ⟨X, 0, none⟩) (fun _ => rfl) _) HNYX.out)
    clear HP5 HF5 HXX5 HXY5 hw
    have qx : ((ofL tk.x).toList == [116, 114, 117, 101]) = decide (tk.x = [116, 114, 117, 101]) := by rw [word_beq, ofL_list]
    have zY1 := HXY6.out.cells 1 _ rfl
    by_cases hx : tk.x = [116, 114, 117, 101]
    ·obtain ⟨s9, e9, h⟩ := mod_out HM.out
     rw [if_pos hx] at h
     have HM : Hid ((do mod (nextS T); nodeM ⟨2, ln, 1, [], []⟩ [] : PM Int) _ = some (r, s')) := Lib.hid (by rw [e9] at h; exact h)
     clear h e9
     rw [decide_eq_true hx] at qx
     clear hx
     have zX2 := HXX6.out.cells 2 _ rfl
     have gX2 := HXX6.out.fz 2
     go_upto_region 19 with fail
     clear zX2 gX2
     obtain ⟨w23, hw⟩ : ∃ w23, w23 = w22.setCell ⟨X, 2, none⟩ (.int .i64 1) := ⟨_, rfl⟩
     have HP7 := Lib.hid (HP6.out.local HXX6.out.out (Nat.lt_of_lt_of_le HLO.out HWX.out) 2 (.int .i64 1))
     have HF7 := Lib.hid (HF6.out.local HWX.out 2 (.int .i64 1))
     have HXX7 : Hid (Loc w23 R X [.int .i64 2, .int .i64 ln, .int .i64 1, .string (ofL []), .slice none 0 0]) := Lib.hid (by rw [hw]; exact HXX6.out.set 2 (.int .i64 1) (by simp))
     rw [← hw] at HP7 HF7 ⊢
     have HXY7 : Hid (Loc w23 R Y [.int .i64 (tk.k : Int), .string (ofL tk.x), .int .i64 (tk.p : Int)]) := Lib.hid (by rw [hw]; exact HXY6.out.keepsR (S := fun b => b = X) ((Keeps.refl (fun b => b = X) w22).setCell (p := ⟨X, 2, none⟩) (fun _ => rfl) _) HNYX.out)
     clear HP6 HF6 HXX6 HXY6 hw
     clear zY1 qx
     obtain ⟨s24, e1, h⟩ := mod_out HM.out
     have NC := Lib.hid (next_at HP7.out e1)
     replace HM := Lib.hid h
     clear h e1
     go_wp2_with fail
     refine NC.out.mono ?_
     rintro e w25 ⟨rfl, R26, hp, hf⟩
     have HP8 := Lib.hid hp
     have HF8 := Lib.hid (HF7.out.trans hf)
     have HXX8 := Lib.hid (HXX7.out.keep hf)
     have HXY8 := Lib.hid (HXY7.out.keep hf)
     clear HP7 HF7 HXX7 HXY7 hp hf NC 
     have NC := Lib.hid ((nodeC P src T).nil HP8.out (2) (ln) (1) ([]) HM.out)
     have zX0 := HXX8.out.cells 0 _ rfl
     have zX1 := HXX8.out.cells 1 _ rfl
     have zX2 := HXX8.out.cells 2 _ rfl
     have zX3 := HXX8.out.cells 3 _ rfl
     have zX4 := HXX8.out.cells 4 _ rfl
     go_wp2_with fail
     refine NC.out.mono ?_
     rintro e w27 ⟨rfl, R28, hp, hf⟩
     have HP9 := Lib.hid hp
     have HF9 := Lib.hid (HF8.out.trans hf)
     have HXX9 := Lib.hid (HXX8.out.keep hf)
     have HXY9 := Lib.hid (HXY8.out.keep hf)
     clear HP8 HF8 HXX8 HXY8 hp hf NC zX0 zX1 zX2 zX3 zX4
     go_wp2_with fail
     go_ret
     exact ⟨rfl, _, HP9.out, HF9.out⟩
    ·obtain ⟨s9, e9, h⟩ := mod_out HM.out
     rw [if_neg hx] at h
     have HM : Hid ((do mod (nextS T); nodeM ⟨2, ln, 0, [], []⟩ [] : PM Int) _ = some (r, s')) := Lib.hid (by rw [e9] at h; exact h)
     clear h e9
     rw [decide_eq_false hx] at qx
     clear hx
     go_upto_region 19 with fail
     clear zY1 qx
     obtain ⟨s29, e1, h⟩ := mod_out HM.out
     have NC := Lib.hid (next_at HP6.out e1)
     replace HM := Lib.hid h
     clear h e1
     go_wp2_with fail
     refine NC.out.mono ?_
     rintro e w30 ⟨rfl, R31, hp, hf⟩
     have HP7 := Lib.hid hp
     have HF7 := Lib.hid (HF6.out.trans hf)
     have HXX7 := Lib.hid (HXX6.out.keep hf)
     have HXY7 := Lib.hid (HXY6.out.keep hf)
     clear HP6 HF6 HXX6 HXY6 hp hf NC 
     have NC := Lib.hid ((nodeC P src T).nil HP7.out (2) (ln) (0) ([]) HM.out)
     have zX0 := HXX7.out.cells 0 _ rfl
     have zX1 := HXX7.out.cells 1 _ rfl
     have zX2 := HXX7.out.cells 2 _ rfl
     have zX3 := HXX7.out.cells 3 _ rfl
     have zX4 := HXX7.out.cells 4 _ rfl
     go_wp2_with fail
     refine NC.out.mono ?_
     rintro e w32 ⟨rfl, R33, hp, hf⟩
     have HP8 := Lib.hid hp
     have HF8 := Lib.hid (HF7.out.trans hf)
     have HXX8 := Lib.hid (HXX7.out.keep hf)
     have HXY8 := Lib.hid (HXY7.out.keep hf)
     clear HP7 HF7 HXX7 HXY7 hp hf NC zX0 zX1 zX2 zX3 zX4
     go_wp2_with fail
     go_ret
     exact ⟨rfl, _, HP8.out, HF8.out⟩
   | false =>
    have h := HM.out
    rw [if_neg (by decide)] at h
    replace HM := Lib.hid h
    clear h
    go_wp2_with fail
    refine IC.out.mono ?_
    rintro e w34 ⟨rfl, k1⟩
    have HP5 := Lib.hid (HP4.out.keep k1)
    have HF5 := Lib.hid (HF4.out.keeps k1)
    have HXX5 := Lib.hid (HXX4.out.keeps k1)
    have HXY5 := Lib.hid (HXY4.out.keeps k1)
    clear HP4 HF4 HXX4 HXY4 IC k1 
    obtain ⟨b, hb, h⟩ := ask_out HM.out
    have IC := Lib.hid (is_at1 HP5.out ({ data := #[108, 101, 110] }) hb)
    replace HM := Lib.hid h
    clear h hb
    cases b with
    | true =>
     have h := HM.out
     rw [if_pos rfl] at h
     replace HM := Lib.hid h
     clear h
     go_wp2_with fail
     refine IC.out.mono ?_
     rintro e w35 ⟨rfl, k1⟩
     have HP6 := Lib.hid (HP5.out.keep k1)
     have HF6 := Lib.hid (HF5.out.keeps k1)
     have HXX6 := Lib.hid (HXX5.out.keeps k1)
     have HXY6 := Lib.hid (HXY5.out.keeps k1)
     clear HP5 HF5 HXX5 HXY5 IC k1 
     clear hk1 hk2
     obtain ⟨s36, e1, h⟩ := mod_out HM.out
     have NC := Lib.hid (next_at HP6.out e1)
     replace HM := Lib.hid h
     clear h e1
     go_wp2_with fail
     refine NC.out.mono ?_
     rintro e w37 ⟨rfl, R38, hp, hf⟩
     have HP7 := Lib.hid hp
     have HF7 := Lib.hid (HF6.out.trans hf)
     have HXX7 := Lib.hid (HXX6.out.keep hf)
     have HXY7 := Lib.hid (HXY6.out.keep hf)
     clear HP6 HF6 HXX6 HXY6 hp hf NC 
     have zX0 := HXX7.out.cells 0 _ rfl
     have gX0 := HXX7.out.fz 0
     go_upto_region 16 with fail
     clear zX0 gX0
     obtain ⟨w39, hw⟩ : ∃ w39, w39 = w37.setCell ⟨X, 0, none⟩ (.int .i64 6) := ⟨_, rfl⟩
     have HP8 := Lib.hid (HP7.out.local HXX7.out.out (Nat.lt_of_lt_of_le HLO.out HWX.out) 0 (.int .i64 6))
     have HF8 := Lib.hid (HF7.out.local HWX.out 0 (.int .i64 6))
     have HXX8 : Hid (Loc w39 R38 X [.int .i64 6, .int .i64 ln, .int .i64 0, .string (ofL []), .slice none 0 0]) := Lib.hid (by rw [hw]; exact HXX7.out.set 0 (.int .i64 6) (by simp))
     rw [← hw] at HP8 HF8 ⊢
     have HXY8 : Hid (Loc w39 R38 Y [.int .i64 (tk.k : Int), .string (ofL tk.x), .int .i64 (tk.p : Int)]) := Lib.hid (by rw [hw]; exact HXY7.out.keepsR (S := fun b => b = X) ((Keeps.refl (fun b => b = X) w37).setCell (p := ⟨X, 0, none⟩) (fun _ => rfl) _) HNYX.out)
     clear HP7 HF7 HXX7 HXY7 hw
     have zX0 := HXX8.out.cells 0 _ rfl
     have zX1 := HXX8.out.cells 1 _ rfl
     have zX2 := HXX8.out.cells 2 _ rfl
     have zX3 := HXX8.out.cells 3 _ rfl
     have zX4 := HXX8.out.cells 4 _ rfl
     obtain ⟨y, s40, hm, h⟩ := bind_out HM.out
     have NA := Lib.hid (inside_any EX ({ data := #[40] }) ({ data := #[41] }) _ _ _ _ _ hm (HP8.out.keep ((Keeps.refl (fun _ => False) w39).drew)))
     replace HM := Lib.hid h
     clear h hm
     go_wp2_with fail
     refine wp_region_held_drew (S := fun w' => w'.cell? ⟨X, 0, none⟩ = some (.int .i64 6) ∧ w'.cell? ⟨X, 1, none⟩ = some (.int .i64 ln) ∧ w'.cell? ⟨X, 2, none⟩ = some (.int .i64 0) ∧ w'.cell? ⟨X, 3, none⟩ = some (.string (ofL [])) ∧ w'.cell? ⟨X, 4, none⟩ = some (.slice none 0 0)) (by kernel_rfl) (⟨zX0, zX1, zX2, zX3, zX4⟩) (fun hHeld => ?_)
     clear zX0 zX1 zX2 zX3 zX4
     have HP9 := Lib.hid (HP8.out.keep ((Keeps.refl (fun _ => False) w39).drew))
     have HF9 := Lib.hid (HF8.out.keeps ((Keeps.refl (fun _ => False) w39).drew))
     have HXX9 := Lib.hid (HXX8.out.keeps ((Keeps.refl (fun _ => False) w39).drew))
     have HXY9 := Lib.hid (HXY8.out.keeps ((Keeps.refl (fun _ => False) w39).drew))
     clear HP8 HF8 HXX8 HXY8 
     refine wpAnyH_take (i := 0) (v := ?_) rfl (by kernel_rfl) (by kernel_rfl) (by kernel_rfl) (fun _ _ _ h => h) (Or.inl ⟨by rfl, ?_⟩) (by assumption) ?_
     rotate_left
     ·(intro w' hSw; (try dsimp only at hSw); obtain ⟨y0, y1, y2, y3, y4⟩ := hSw; go_simp; (try (with_reducible rfl)))
     simp only [Act.put, List.getElem_toArray, List.getElem_cons_succ, List.getElem_cons_zero, List.setIfInBounds_toArray, List.set_cons_succ, List.set_cons_zero]
     refine wpAnyH_take (i := 1) (v := ?_) rfl (by kernel_rfl) (by kernel_rfl) (by kernel_rfl) (fun _ _ _ h => h) (Or.inl ⟨by rfl, ?_⟩) (by assumption) ?_
     rotate_left
     ·(intro w' hSw; (try dsimp only at hSw); obtain ⟨y0, y1, y2, y3, y4⟩ := hSw; go_simp; (try (with_reducible rfl)))
     simp only [Act.put, List.getElem_toArray, List.getElem_cons_succ, List.getElem_cons_zero, List.setIfInBounds_toArray, List.set_cons_succ, List.set_cons_zero]
     refine wpAnyH_take (i := 2) (v := ?_) rfl (by kernel_rfl) (by kernel_rfl) (by kernel_rfl) (fun _ _ _ h => h) (Or.inl ⟨by rfl, ?_⟩) (by assumption) ?_
     rotate_left
     ·(intro w' hSw; (try dsimp only at hSw); obtain ⟨y0, y1, y2, y3, y4⟩ := hSw; go_simp; (try (with_reducible rfl)))
     simp only [Act.put, List.getElem_toArray, List.getElem_cons_succ, List.getElem_cons_zero, List.setIfInBounds_toArray, List.set_cons_succ, List.set_cons_zero]
     refine wpAnyH_ready (rs := [3]) (by kernel_rfl) (by simp) ?_
     refine AllReadyH.cons rfl (fun K hK => ?_) AllReadyH.nil
     go_simp
     (go_at_call 165; refine NA.out.mono ?_; rintro e w41 ⟨rfl, R42, hp, hf⟩; (try go_simp))
     have HP10 := Lib.hid hp
     have HF10 := Lib.hid (HF9.out.trans hf)
     have HXX10 := Lib.hid (HXX9.out.keep hf)
     have HXY10 := Lib.hid (HXY9.out.keep hf)
     clear HP9 HF9 HXX9 HXY9 hp hf NA
     refine hK.out _ _ ⟨HXX10.out.cells 0 _ rfl, HXX10.out.cells 1 _ rfl, HXX10.out.cells 2 _ rfl, HXX10.out.cells 3 _ rfl, HXX10.out.cells 4 _ rfl⟩ (fun hHeld => ?_)
     clear hK K
     refine wpAnyH_ready (rs := [4]) (by kernel_rfl) (by simp) ?_
     refine AllReadyH.cons rfl (fun K hK => ?_) AllReadyH.nil
     go_simp
     have ZA := Lib.hid (HXX10.out.keeps (Keeps.one w41 (.cells #[.int .i64 y] 3)))
     refine hK.out _ _ ⟨ZA.out.cells 0 _ rfl, ZA.out.cells 1 _ rfl, ZA.out.cells 2 _ rfl, ZA.out.cells 3 _ rfl, ZA.out.cells 4 _ rfl⟩ (fun hHeld => ?_)
     clear hK K ZA
     refine wpAnyH_ready (rs := [5]) (by kernel_rfl) (by simp) ?_
     refine AllReadyH.cons rfl (fun K hK => ?_) AllReadyH.nil
     have NB := Lib.hid ((nodeC P src T).one HP10.out (6) (ln) (0) ([]) y HM.out)
     go_simp
     (go_at_call 97; refine NB.out.mono ?_; rintro e w43 ⟨rfl, R44, hp, hf⟩; (try go_simp))
     have HP11 := Lib.hid hp
     have HF11 := Lib.hid (HF10.out.trans hf)
     have HXX11 := Lib.hid (HXX10.out.keep hf)
     have HXY11 := Lib.hid (HXY10.out.keep hf)
     clear HP10 HF10 HXX10 HXY10 hp hf NB
     refine hK.out _ _ ⟨HXX11.out.cells 0 _ rfl, HXX11.out.cells 1 _ rfl, HXX11.out.cells 2 _ rfl, HXX11.out.cells 3 _ rfl, HXX11.out.cells 4 _ rfl⟩ (fun hHeld => ?_)
     clear hK K
     refine wpAnyH_take (i := 6) (v := ?_) rfl (by kernel_rfl) (by kernel_rfl) (by kernel_rfl) (fun _ _ _ h => h) (Or.inl ⟨by rfl, ?_⟩) (by assumption) ?_
     rotate_left
     ·(intro w' hSw; (try dsimp only at hSw); obtain ⟨y0, y1, y2, y3, y4⟩ := hSw; go_simp; (try (with_reducible rfl)))
     simp only [Act.put, List.getElem_toArray, List.getElem_cons_succ, List.getElem_cons_zero, List.setIfInBounds_toArray, List.set_cons_succ, List.set_cons_zero]
     refine wpAnyH_done (by kernel_rfl) ?_ _
     clear hHeld
     go_wp2_with fail
     go_ret
     exact ⟨rfl, _, HP11.out, HF11.out⟩
    | false =>
     have h := HM.out
     rw [if_neg (by decide)] at h
     replace HM := Lib.hid h
     clear h
     go_wp2_with fail
     refine IC.out.mono ?_
     rintro e w45 ⟨rfl, k1⟩
     have HP6 := Lib.hid (HP5.out.keep k1)
     have HF6 := Lib.hid (HF5.out.keeps k1)
     have HXX6 := Lib.hid (HXX5.out.keeps k1)
     have HXY6 := Lib.hid (HXY5.out.keeps k1)
     clear HP5 HF5 HXX5 HXY5 IC k1 
     obtain ⟨b, hb, h⟩ := ask_out HM.out
     have IC := Lib.hid (is_at1 HP6.out ({ data := #[40] }) hb)
     replace HM := Lib.hid h
     clear h hb
     cases b with
     | true =>
      have h := HM.out
      rw [if_pos rfl] at h
      replace HM := Lib.hid h
      clear h
      go_wp2_with fail
      refine IC.out.mono ?_
      rintro e w46 ⟨rfl, k1⟩
      have HP7 := Lib.hid (HP6.out.keep k1)
      have HF7 := Lib.hid (HF6.out.keeps k1)
      have HXX7 := Lib.hid (HXX6.out.keeps k1)
      have HXY7 := Lib.hid (HXY6.out.keeps k1)
      clear HP6 HF6 HXX6 HXY6 IC k1 
      have NC := Lib.hid (inside_any EX ({ data := #[40] }) ({ data := #[41] }) _ _ _ _ _ HM.out HP7.out)
      go_wp2_with fail
      refine NC.out.mono ?_
      rintro e w47 ⟨rfl, R48, hp, hf⟩
      have HP8 := Lib.hid hp
      have HF8 := Lib.hid (HF7.out.trans hf)
      have HXX8 := Lib.hid (HXX7.out.keep hf)
      have HXY8 := Lib.hid (HXY7.out.keep hf)
      clear HP7 HF7 HXX7 HXY7 hp hf NC 
      go_wp2_with fail
      go_ret
      exact ⟨rfl, _, HP8.out, HF8.out⟩
     | false =>
      have h := HM.out
      rw [if_neg (by decide)] at h
      replace HM := Lib.hid h
      clear h
      go_wp2_with fail
      refine IC.out.mono ?_
      rintro e w49 ⟨rfl, k1⟩
      have HP7 := Lib.hid (HP6.out.keep k1)
      have HF7 := Lib.hid (HF6.out.keeps k1)
      have HXX7 := Lib.hid (HXX6.out.keeps k1)
      have HXY7 := Lib.hid (HXY6.out.keeps k1)
      clear HP6 HF6 HXX6 HXY6 IC k1 
      have zX0 := HXX7.out.cells 0 _ rfl
      have zX1 := HXX7.out.cells 1 _ rfl
      have zX2 := HXX7.out.cells 2 _ rfl
      have zX3 := HXX7.out.cells 3 _ rfl
      have zX4 := HXX7.out.cells 4 _ rfl
      have NC := Lib.hid (variable_any EX ln _ _ _ _ _ HM.out HP7.out)
      go_wp2_with fail
      refine NC.out.mono ?_
      rintro e w50 ⟨rfl, R51, hp, hf⟩
      have HP8 := Lib.hid hp
      have HF8 := Lib.hid (HF7.out.trans hf)
      have HXX8 := Lib.hid (HXX7.out.keep hf)
      have HXY8 := Lib.hid (HXY7.out.keep hf)
      clear HP7 HF7 HXX7 HXY7 hp hf NC zX0 zX1 zX2 zX3 zX4
      go_wp2_with fail
      go_ret
      exact ⟨rfl, _, HP8.out, HF8.out⟩
end Go.Proofs.YtbhpnioggpgbhaaGreatDoor

namespace Go.Proofs.YtbhpnioggpgbhaaGreatDoor
open Go Go.RowKit Go.Shelf
set_option linter.unusedVariables false
set_option linter.unusedSimpArgs false
theorem open_at {P : Nat} {src : ByteArray} {T : List Tok} {R : Nat → Prop} {s s1 : PS} {w : World} (h : Par w P src T R s) (x : List UInt8) {u : Unit} (hm : openM T x s = some (u, s1)) : Calls Tryz.prog 94 #[.pointer (some ⟨P, 0, none⟩), .string (ofL x)] w (Post P src T R w (.tuple #[]) s1) :=
 open_any h (ofL x) (by rw [ofL_list]; exact hm)
set_option maxRecDepth 100000 in
set_option maxHeartbeats 16000000 in
theorem factor_any {P : Nat} {src : ByteArray} {T : List Tok} {fac ex : PM Int} (hsz : src.size ≤ 1000) (EX : ExC P src T 119 ex) (FAC : ExC P src T 150 fac) : ExC P src T 150 (factorM src.data.toList T fac ex) := by
 intro s r s' R w h hp
 have HP0 := Lib.hid hp
 have HF0 := Lib.hid (Fr.refl R w)
 have HLO := Lib.hid hp.lo
 have HM := Lib.hid h
 clear h hp
 go_enter Tryz.func150, Tryz.ntmps150
 obtain ⟨ln, hln, h⟩ := ask_out HM.out
 have LC := Lib.hid (line_at hsz HP0.out hln)
 replace HM := Lib.hid h
 clear h hln
 go_wp2_with fail
 refine LC.out.mono ?_
 rintro e w1 ⟨rfl, k1⟩
 have HP1 := Lib.hid (HP0.out.keep k1)
 have HF1 := Lib.hid (HF0.out.keeps k1)
 clear HP0 HF0 LC k1 
 go_upto_region 2 with fail
 have ka := Keeps.one w1 (.cells #[.int .i64 7, .int .i64 ln, .int .i64 0, .string { data := #[] }, .slice none 0 0] 41)
 obtain ⟨X, hX⟩ : ∃ X, X = w1.heap.size := ⟨_, rfl⟩
 obtain ⟨w2, hw⟩ : ∃ w2, w2 = w1.alloc (.cells #[.int .i64 7, .int .i64 ln, .int .i64 0, .string { data := #[] }, .slice none 0 0] 41) := ⟨_, rfl⟩
 have HXX2 : Hid (Loc w2 R X [.int .i64 7, .int .i64 ln, .int .i64 0, .string (ofL []), .slice none 0 0]) := Lib.hid (by rw [hw, hX]; exact Loc.new HP1.out.new [.int .i64 7, .int .i64 ln, .int .i64 0, .string (ofL []), .slice none 0 0] 41)
 have HWX : Hid (w.heap.size ≤ X) := Lib.hid (by rw [hX]; exact HF1.out.1.size)
 rw [← hX]
 rw [← hw] at ka ⊢
 have HP2 := Lib.hid (HP1.out.keep ka)
 have HF2 := Lib.hid (HF1.out.keeps ka)
 clear HP1 HF1 ka hw hX
 obtain ⟨tk, ht, h⟩ := ask_out HM.out
 have NC := Lib.hid (now_at HP2.out ht)
 have F1 : ∀ w, Sem.run Tryz.prog (Instr.field 77 (.agg #[.int .i64 (tk.k : Int), .string (ofL tk.x), .int .i64 (tk.p : Int)]) 1) w = .ok (.string (ofL tk.x)) w := fun w => tok_field1 _ _ _ w
 replace HM := Lib.hid h
 clear h ht
 go_wp2_with fail
 refine NC.out.mono ?_
 rintro e w3 ⟨rfl, k1⟩
 have HP3 := Lib.hid (HP2.out.keep k1)
 have HF3 := Lib.hid (HF2.out.keeps k1)
 have HXX3 := Lib.hid (HXX2.out.keeps k1)
 clear HP2 HF2 HXX2 NC k1 
 obtain ⟨b, hb, h⟩ := ask_out HM.out
 have IC := Lib.hid (is_at1 HP3.out ({ data := #[33] }) hb)
 replace HM := Lib.hid h
 clear h hb
 cases b with
 | true =>
  have h := HM.out
  rw [if_pos rfl] at h
  replace HM := Lib.hid h
  clear h
  go_wp2_with fail
  refine IC.out.mono ?_
  rintro e w4 ⟨rfl, k1⟩
  have HP4 := Lib.hid (HP3.out.keep k1)
  have HF4 := Lib.hid (HF3.out.keeps k1)
  have HXX4 := Lib.hid (HXX3.out.keeps k1)
  clear HP3 HF3 HXX3 IC k1 
  have zX0 := HXX4.out.cells 0 _ rfl
  have gX0 := HXX4.out.fz 0
  go_upto_region 7 with fail
  clear zX0 gX0
  obtain ⟨w5, hw⟩ : ∃ w5, w5 = w4.setCell ⟨X, 0, none⟩ (.int .i64 8) := ⟨_, rfl⟩
  have HP5 := Lib.hid (HP4.out.local HXX4.out.out (Nat.lt_of_lt_of_le HLO.out HWX.out) 0 (.int .i64 8))
  have HF5 := Lib.hid (HF4.out.local HWX.out 0 (.int .i64 8))
  have HXX5 : Hid (Loc w5 R X [.int .i64 8, .int .i64 ln, .int .i64 0, .string (ofL []), .slice none 0 0]) := Lib.hid (by rw [hw]; exact HXX4.out.set 0 (.int .i64 8) (by simp))
  rw [← hw] at HP5 HF5 ⊢
  clear HP4 HF4 HXX4 hw
  obtain ⟨u, s6, hm, h⟩ := bind_out HM.out
  have NC := Lib.hid (open_at HP5.out tk.x hm)
  replace HM := Lib.hid h
  clear h hm
  go_wp2_with fail
  refine NC.out.mono ?_
  rintro e w7 ⟨rfl, R8, hp, hf⟩
  have HP6 := Lib.hid hp
  have HF6 := Lib.hid (HF5.out.trans hf)
  have HXX6 := Lib.hid (HXX5.out.keep hf)
  clear HP5 HF5 HXX5 hp hf NC 
  obtain ⟨x, s9, hm, h⟩ := bind_out HM.out
  have NC := Lib.hid (FAC _ _ _ _ _ hm HP6.out)
  replace HM := Lib.hid h
  clear h hm
  go_wp2_with fail
  refine NC.out.mono ?_
  rintro e w10 ⟨rfl, R11, hp, hf⟩
  have HP7 := Lib.hid hp
  have HF7 := Lib.hid (HF6.out.trans hf)
  have HXX7 := Lib.hid (HXX6.out.keep hf)
  clear HP6 HF6 HXX6 hp hf NC 
  obtain ⟨u, s12, hm, h⟩ := bind_out HM.out
  obtain ⟨hd, e1⟩ := deep_out hm
  replace HM := Lib.hid h
  have hs := HP7.out.see
  have c6 := hs.c6
  have f6 := hs.fz 6
  have hw := IntWalk.i64_in (s9.dp - 1) (by omega)
  have hset := HP7.out.setDp (s9.dp - 1)
  have HP8 : Hid (Par (w10.setCell ⟨P, 6, none⟩ (.int .i64 (s9.dp - 1))) P src T R11 s12) := Lib.hid (by rw [e1]; exact hset.1)
  have HF8 := Lib.hid (HF7.out.trans hset.2)
  have HXX8 := Lib.hid (HXX7.out.keep hset.2)
  clear h hm e1 hs hset HP7 HF7 HXX7
  generalize s9.dp = dp at *
  go_upto_region 10 with fail
  generalize w10.setCell ⟨P, 6, none⟩ (.int .i64 (dp - 1)) = w13 at *
  clear c6 f6 hw hd
  have NC := Lib.hid ((nodeC P src T).one HP8.out (8) (ln) (0) ([]) x HM.out)
  have zX0 := HXX8.out.cells 0 _ rfl
  have zX1 := HXX8.out.cells 1 _ rfl
  have zX2 := HXX8.out.cells 2 _ rfl
  have zX3 := HXX8.out.cells 3 _ rfl
  have zX4 := HXX8.out.cells 4 _ rfl
  go_wp2_with fail
  refine NC.out.mono ?_
  rintro e w14 ⟨rfl, R15, hp, hf⟩
  have HP9 := Lib.hid hp
  have HF9 := Lib.hid (HF8.out.trans hf)
  have HXX9 := Lib.hid (HXX8.out.keep hf)
  clear HP8 HF8 HXX8 hp hf NC zX0 zX1 zX2 zX3 zX4
  go_wp2_with fail
  go_ret
  exact ⟨rfl, _, HP9.out, HF9.out⟩
 | false =>
  have h := HM.out
  rw [if_neg (by decide)] at h
  replace HM := Lib.hid h
  clear h
  go_wp2_with fail
  refine IC.out.mono ?_
  rintro e w16 ⟨rfl, k1⟩
  have HP4 := Lib.hid (HP3.out.keep k1)
  have HF4 := Lib.hid (HF3.out.keeps k1)
  have HXX4 := Lib.hid (HXX3.out.keeps k1)
  clear HP3 HF3 HXX3 IC k1 
  obtain ⟨b, hb, h⟩ := ask_out HM.out
  have IC := Lib.hid (is_at1 HP4.out ({ data := #[45] }) hb)
  replace HM := Lib.hid h
  clear h hb
  cases b with
  | true =>
   have h := HM.out
   rw [if_pos rfl] at h
   replace HM := Lib.hid h
   clear h
   go_wp2_with fail
   refine IC.out.mono ?_
   rintro e w17 ⟨rfl, k1⟩
   have HP5 := Lib.hid (HP4.out.keep k1)
   have HF5 := Lib.hid (HF4.out.keeps k1)
   have HXX5 := Lib.hid (HXX4.out.keeps k1)
   clear HP4 HF4 HXX4 IC k1 
   obtain ⟨u, s18, hm, h⟩ := bind_out HM.out
   have NC := Lib.hid (open_at HP5.out tk.x hm)
   replace HM := Lib.hid h
   clear h hm
   go_wp2_with fail
   refine NC.out.mono ?_
   rintro e w19 ⟨rfl, R20, hp, hf⟩
   have HP6 := Lib.hid hp
   have HF6 := Lib.hid (HF5.out.trans hf)
   have HXX6 := Lib.hid (HXX5.out.keep hf)
   clear HP5 HF5 HXX5 hp hf NC 
   obtain ⟨x, s21, hm, h⟩ := bind_out HM.out
   have NC := Lib.hid (FAC _ _ _ _ _ hm HP6.out)
   replace HM := Lib.hid h
   clear h hm
   go_wp2_with fail
   refine NC.out.mono ?_
   rintro e w22 ⟨rfl, R23, hp, hf⟩
   have HP7 := Lib.hid hp
   have HF7 := Lib.hid (HF6.out.trans hf)
   have HXX7 := Lib.hid (HXX6.out.keep hf)
   clear HP6 HF6 HXX6 hp hf NC 
   obtain ⟨u, s24, hm, h⟩ := bind_out HM.out
   obtain ⟨hd, e1⟩ := deep_out hm
   replace HM := Lib.hid h
   have hs := HP7.out.see
   have c6 := hs.c6
   have f6 := hs.fz 6
   have hw := IntWalk.i64_in (s21.dp - 1) (by omega)
   have hset := HP7.out.setDp (s21.dp - 1)
   have HP8 : Hid (Par (w22.setCell ⟨P, 6, none⟩ (.int .i64 (s21.dp - 1))) P src T R23 s24) := Lib.hid (by rw [e1]; exact hset.1)
   have HF8 := Lib.hid (HF7.out.trans hset.2)
   have HXX8 := Lib.hid (HXX7.out.keep hset.2)
   clear h hm e1 hs hset HP7 HF7 HXX7
   generalize s21.dp = dp at *
   go_upto_region 10 with fail
   generalize w22.setCell ⟨P, 6, none⟩ (.int .i64 (dp - 1)) = w25 at *
   clear c6 f6 hw hd
   have NC := Lib.hid ((nodeC P src T).one HP8.out (7) (ln) (0) ([]) x HM.out)
   have zX0 := HXX8.out.cells 0 _ rfl
   have zX1 := HXX8.out.cells 1 _ rfl
   have zX2 := HXX8.out.cells 2 _ rfl
   have zX3 := HXX8.out.cells 3 _ rfl
   have zX4 := HXX8.out.cells 4 _ rfl
   go_wp2_with fail
   refine NC.out.mono ?_
   rintro e w26 ⟨rfl, R27, hp, hf⟩
   have HP9 := Lib.hid hp
   have HF9 := Lib.hid (HF8.out.trans hf)
   have HXX9 := Lib.hid (HXX8.out.keep hf)
   clear HP8 HF8 HXX8 hp hf NC zX0 zX1 zX2 zX3 zX4
   go_wp2_with fail
   go_ret
   exact ⟨rfl, _, HP9.out, HF9.out⟩
  | false =>
   have h := HM.out
   rw [if_neg (by decide)] at h
   replace HM := Lib.hid h
   clear h
   go_wp2_with fail
   refine IC.out.mono ?_
   rintro e w28 ⟨rfl, k1⟩
   have HP5 := Lib.hid (HP4.out.keep k1)
   have HF5 := Lib.hid (HF4.out.keeps k1)
   have HXX5 := Lib.hid (HXX4.out.keeps k1)
   clear HP4 HF4 HXX4 IC k1 
   have NC := Lib.hid ((atom_any hsz EX) _ _ _ _ _ HM.out HP5.out)
   go_wp2_with fail
   refine NC.out.mono ?_
   rintro e w29 ⟨rfl, R30, hp, hf⟩
   have HP6 := Lib.hid hp
   have HF6 := Lib.hid (HF5.out.trans hf)
   have HXX6 := Lib.hid (HXX5.out.keep hf)
   clear HP5 HF5 HXX5 hp hf NC 
   go_wp2_with fail
   go_ret
   exact ⟨rfl, _, HP6.out, HF6.out⟩
set_option maxRecDepth 100000 in
set_option maxHeartbeats 16000000 in
theorem endedC (P : Nat) (src : ByteArray) (T : List Tok) : NodeC P src T 121 (endedM T) := by
 intro k ln n x l s s' r R w a0 m0 c0 a c h hp hr hn hcap
 have HCAP := Lib.hid hcap
 clear hcap
 have HRD := Lib.hid hr
 have HNR := Lib.hid hn
 have HP0 := Lib.hid hp
 have HF0 := Lib.hid (Fr.refl R w)
 have HLO := Lib.hid hp.lo
 have HM := Lib.hid h
 clear h hp
 go_enter Tryz.func121, Tryz.ntmps121
 clear hr hn
 go_upto_region 1 with fail
 have ka := Keeps.one w (.cells #[.int .i64 k, .int .i64 ln, .int .i64 n, .string (ofL x), .slice a0 m0 c0] 41)
 obtain ⟨X, hX⟩ : ∃ X, X = w.heap.size := ⟨_, rfl⟩
 obtain ⟨w1, hw⟩ : ∃ w1, w1 = w.alloc (.cells #[.int .i64 k, .int .i64 ln, .int .i64 n, .string (ofL x), .slice a0 m0 c0] 41) := ⟨_, rfl⟩
 have HXX1 : Hid (Loc w1 R X [.int .i64 k, .int .i64 ln, .int .i64 n, .string (ofL x), .slice a0 m0 c0]) := Lib.hid (by rw [hw, hX]; exact Loc.new HP0.out.new [.int .i64 k, .int .i64 ln, .int .i64 n, .string (ofL x), .slice a0 m0 c0] 41)
 have HWX : Hid (w.heap.size ≤ X) := Lib.hid (by rw [hX]; exact HF0.out.1.size)
 rw [← hX]
 rw [← hw] at ka ⊢
 have HP1 := Lib.hid (HP0.out.keep ka)
 have HF1 := Lib.hid (HF0.out.keeps ka)
 clear HP0 HF0 ka hw hX
 obtain ⟨s2, e1, h⟩ := mod_out HM.out
 have NC := Lib.hid (want_at HP1.out ({ data := #[59] }) e1)
 replace HM := Lib.hid h
 clear h e1
 go_wp2_with fail
 refine NC.out.mono ?_
 rintro e w3 ⟨rfl, R4, hp, hf⟩
 have HP2 := Lib.hid hp
 have HF2 := Lib.hid (HF1.out.trans hf)
 have HXX2 := Lib.hid (HXX1.out.keep hf)
 clear HP1 HF1 HXX1 hp hf NC 
 have NC := Lib.hid (nodeC P src T k ln n x l _ _ _ _ _ a0 m0 c0 a c HM.out HP2.out (HRD.out.keep HF2.out.1 (fun h0 b off e hb => by
  obtain ⟨X', off', e', hX, _⟩ := HNR.out h0
  rw [e] at e'
  cases e'
  exact hX hb)) (fun h0 => by
  obtain ⟨X', off', e', hX, hPX⟩ := HNR.out h0
  exact ⟨X', off', e', fun hb => hX (HF2.out.2 X' (HRD.out.lt h0 e') hb), hPX⟩) HCAP.out)
 have zX0 := HXX2.out.cells 0 _ rfl
 have zX1 := HXX2.out.cells 1 _ rfl
 have zX2 := HXX2.out.cells 2 _ rfl
 have zX3 := HXX2.out.cells 3 _ rfl
 have zX4 := HXX2.out.cells 4 _ rfl
 go_wp2_with fail
 refine NC.out.mono ?_
 rintro e w9 ⟨rfl, R9, hp, hk, hb⟩
 have HZ : Hid (∃ R', Par w9 P src T R' s' ∧ Keeps R w w9 ∧ ∀ b, b < w.heap.size → R' b → R b ∨ ∃ off, a = some ⟨b, off, none⟩) := Lib.hid ⟨R9, hp, HF2.out.1.trans hk (fun x hx hr => HF2.out.2 x hx hr), fun b hb2 hr2 => (hb b (Nat.lt_of_lt_of_le hb2 HF2.out.1.size) hr2).imp (HF2.out.2 b hb2) id⟩
 clear hp hk hb NC zX0 zX1 zX2 zX3 zX4
 go_wp2_with fail
 go_ret
 exact ⟨rfl, HZ.out⟩
end Go.Proofs.YtbhpnioggpgbhaaGreatDoor
