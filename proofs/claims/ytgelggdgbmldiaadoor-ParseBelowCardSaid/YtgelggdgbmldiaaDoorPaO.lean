/-
  Layer 2: factor, ended. Written by an AI agent.
-/
import Derived.Test.YtgelggdgbmldiaaDoorPaN
import Derived.Deep.RegionHeld
namespace Go.Proofs.YtgelggdgbmldiaaDoor
open Go Go.RowKit Go.Shelf
set_option linter.unusedVariables false
set_option linter.unusedSimpArgs false

theorem open_at {P : Nat} {src : ByteArray} {T : List Tok} {R : Nat → Prop} {s s1 : PS} {w : World} (h : Par w P src T R s) (x : List UInt8) {u : Unit} (hm : openM T x s = some (u, s1)) : Calls Tryd.prog 82 #[.pointer (some ⟨P, 0, none⟩), .string (ofL x)] w (Post P src T R w (.tuple #[]) s1) :=
  open_any h (ofL x) (by rw [ofL_list]; exact hm)

set_option maxRecDepth 100000 in
set_option maxHeartbeats 16000000 in
theorem factor_any {P : Nat} {src : ByteArray} {T : List Tok} {fac ex : PM Int} (hsz : src.size ≤ 1000) (EX : ExC P src T 112 ex) (FAC : ExC P src T 147 fac) : ExC P src T 147 (factorM src.data.toList T fac ex) := by
  intro s r s' R w h hp
  have HP0 := Lib.hid hp
  have HF0 := Lib.hid (Fr.refl R w)
  have HLO := Lib.hid hp.lo
  have HM := Lib.hid h
  clear h hp
  go_enter Tryd.func147, Tryd.ntmps147
  obtain ⟨ln, hln, h⟩ := ask_out HM.out
  have LC := Lib.hid (line_at hsz HP0.out hln)
  replace HM := Lib.hid h
  clear h hln
  go_wp2_with fail
  refine LC.out.mono ?_
  rintro e w1 ⟨rfl, k1⟩
  have HP1 := Lib.hid (HP0.out.keep k1)
  have HF1 := Lib.hid (HF0.out.keeps k1)
  clear HP0 HF0 LC k1 
  go_upto_region 2 with fail
  have ka := Keeps.one w1 (.cells #[.int .i64 7, .int .i64 ln, .int .i64 0, .string { data := #[] }, .slice none 0 0] 33)
  obtain ⟨X, hX⟩ : ∃ X, X = w1.heap.size := ⟨_, rfl⟩
  obtain ⟨w2, hw⟩ : ∃ w2, w2 = w1.alloc (.cells #[.int .i64 7, .int .i64 ln, .int .i64 0, .string { data := #[] }, .slice none 0 0] 33) := ⟨_, rfl⟩
  have HXX2 : Hid (Loc w2 R X [.int .i64 7, .int .i64 ln, .int .i64 0, .string (ofL []), .slice none 0 0]) := Lib.hid (by rw [hw, hX]; exact Loc.new HP1.out.new [.int .i64 7, .int .i64 ln, .int .i64 0, .string (ofL []), .slice none 0 0] 33)
  have HWX : Hid (w.heap.size ≤ X) := Lib.hid (by rw [hX]; exact HF1.out.1.size)
  rw [← hX]
  rw [← hw] at ka ⊢
  have HP2 := Lib.hid (HP1.out.keep ka)
  have HF2 := Lib.hid (HF1.out.keeps ka)
  clear HP1 HF1 ka hw hX
  obtain ⟨tk, ht, h⟩ := ask_out HM.out
  have NC := Lib.hid (now_at HP2.out ht)
  have F1 : ∀ w, Sem.run Tryd.prog (Instr.field 54 (.agg #[.int .i64 (tk.k : Int), .string (ofL tk.x), .int .i64 (tk.p : Int)]) 1) w = .ok (.string (ofL tk.x)) w := fun w => tok_field1 _ _ _ w
  replace HM := Lib.hid h
  clear h ht
  go_wp2_with fail
  refine NC.out.mono ?_
  rintro e w3 ⟨rfl, k1⟩
  have HP3 := Lib.hid (HP2.out.keep k1)
  have HF3 := Lib.hid (HF2.out.keeps k1)
  have HXX3 := Lib.hid (HXX2.out.keeps k1)
  clear HP2 HF2 HXX2 NC k1 
  obtain ⟨b, hb, h⟩ := ask_out HM.out
  have IC := Lib.hid (is_at1 HP3.out ({ data := #[33] }) hb)
  replace HM := Lib.hid h
  clear h hb
  cases b with
  | true =>
    have h := HM.out
    rw [if_pos rfl] at h
    replace HM := Lib.hid h
    clear h
    go_wp2_with fail
    refine IC.out.mono ?_
    rintro e w4 ⟨rfl, k1⟩
    have HP4 := Lib.hid (HP3.out.keep k1)
    have HF4 := Lib.hid (HF3.out.keeps k1)
    have HXX4 := Lib.hid (HXX3.out.keeps k1)
    clear HP3 HF3 HXX3 IC k1 
    have zX0 := HXX4.out.cells 0 _ rfl
    have gX0 := HXX4.out.fz 0
    go_upto_region 7 with fail
    clear zX0 gX0
    obtain ⟨w5, hw⟩ : ∃ w5, w5 = w4.setCell ⟨X, 0, none⟩ (.int .i64 8) := ⟨_, rfl⟩
    have HP5 := Lib.hid (HP4.out.local HXX4.out.out (Nat.lt_of_lt_of_le HLO.out HWX.out) 0 (.int .i64 8))
    have HF5 := Lib.hid (HF4.out.local HWX.out 0 (.int .i64 8))
    have HXX5 : Hid (Loc w5 R X [.int .i64 8, .int .i64 ln, .int .i64 0, .string (ofL []), .slice none 0 0]) := Lib.hid (by rw [hw]; exact HXX4.out.set 0 (.int .i64 8) (by simp))
    rw [← hw] at HP5 HF5 ⊢
    clear HP4 HF4 HXX4 hw
    obtain ⟨u, s6, hm, h⟩ := bind_out HM.out
    have NC := Lib.hid (open_at HP5.out tk.x hm)
    replace HM := Lib.hid h
    clear h hm
    go_wp2_with fail
    refine NC.out.mono ?_
    rintro e w7 ⟨rfl, R8, hp, hf⟩
    have HP6 := Lib.hid hp
    have HF6 := Lib.hid (HF5.out.trans hf)
    have HXX6 := Lib.hid (HXX5.out.keep hf)
    clear HP5 HF5 HXX5 hp hf NC 
    obtain ⟨x, s9, hm, h⟩ := bind_out HM.out
    have NC := Lib.hid (FAC _ _ _ _ _ hm HP6.out)
    replace HM := Lib.hid h
    clear h hm
    go_wp2_with fail
    refine NC.out.mono ?_
    rintro e w10 ⟨rfl, R11, hp, hf⟩
    have HP7 := Lib.hid hp
    have HF7 := Lib.hid (HF6.out.trans hf)
    have HXX7 := Lib.hid (HXX6.out.keep hf)
    clear HP6 HF6 HXX6 hp hf NC 
    obtain ⟨u, s12, hm, h⟩ := bind_out HM.out
    obtain ⟨hd, e1⟩ := deep_out hm
    replace HM := Lib.hid h
    have hs := HP7.out.see
    have c6 := hs.c6
    have f6 := hs.fz 6
    have hw := IntWalk.i64_in (s9.dp - 1) (by omega)
    have hset := HP7.out.setDp (s9.dp - 1)
    have HP8 : Hid (Par (w10.setCell ⟨P, 6, none⟩ (.int .i64 (s9.dp - 1))) P src T R11 s12) := Lib.hid (by rw [e1]; exact hset.1)
    have HF8 := Lib.hid (HF7.out.trans hset.2)
    have HXX8 := Lib.hid (HXX7.out.keep hset.2)
    clear h hm e1 hs hset HP7 HF7 HXX7
    generalize s9.dp = dp at *
    go_upto_region 10 with fail
    generalize w10.setCell ⟨P, 6, none⟩ (.int .i64 (dp - 1)) = w13 at *
    clear c6 f6 hw hd
    have NC := Lib.hid ((nodeC P src T).one HP8.out (8) (ln) (0) ([]) x HM.out)
    have zX0 := HXX8.out.cells 0 _ rfl
    have zX1 := HXX8.out.cells 1 _ rfl
    have zX2 := HXX8.out.cells 2 _ rfl
    have zX3 := HXX8.out.cells 3 _ rfl
    have zX4 := HXX8.out.cells 4 _ rfl
    go_wp2_with fail
    refine NC.out.mono ?_
    rintro e w14 ⟨rfl, R15, hp, hf⟩
    have HP9 := Lib.hid hp
    have HF9 := Lib.hid (HF8.out.trans hf)
    have HXX9 := Lib.hid (HXX8.out.keep hf)
    clear HP8 HF8 HXX8 hp hf NC zX0 zX1 zX2 zX3 zX4
    go_wp2_with fail
    go_ret
    exact ⟨rfl, _, HP9.out, HF9.out⟩
  | false =>
    have h := HM.out
    rw [if_neg (by decide)] at h
    replace HM := Lib.hid h
    clear h
    go_wp2_with fail
    refine IC.out.mono ?_
    rintro e w16 ⟨rfl, k1⟩
    have HP4 := Lib.hid (HP3.out.keep k1)
    have HF4 := Lib.hid (HF3.out.keeps k1)
    have HXX4 := Lib.hid (HXX3.out.keeps k1)
    clear HP3 HF3 HXX3 IC k1 
    obtain ⟨b, hb, h⟩ := ask_out HM.out
    have IC := Lib.hid (is_at1 HP4.out ({ data := #[45] }) hb)
    replace HM := Lib.hid h
    clear h hb
    cases b with
    | true =>
      have h := HM.out
      rw [if_pos rfl] at h
      replace HM := Lib.hid h
      clear h
      go_wp2_with fail
      refine IC.out.mono ?_
      rintro e w17 ⟨rfl, k1⟩
      have HP5 := Lib.hid (HP4.out.keep k1)
      have HF5 := Lib.hid (HF4.out.keeps k1)
      have HXX5 := Lib.hid (HXX4.out.keeps k1)
      clear HP4 HF4 HXX4 IC k1 
      obtain ⟨u, s18, hm, h⟩ := bind_out HM.out
      have NC := Lib.hid (open_at HP5.out tk.x hm)
      replace HM := Lib.hid h
      clear h hm
      go_wp2_with fail
      refine NC.out.mono ?_
      rintro e w19 ⟨rfl, R20, hp, hf⟩
      have HP6 := Lib.hid hp
      have HF6 := Lib.hid (HF5.out.trans hf)
      have HXX6 := Lib.hid (HXX5.out.keep hf)
      clear HP5 HF5 HXX5 hp hf NC 
      obtain ⟨x, s21, hm, h⟩ := bind_out HM.out
      have NC := Lib.hid (FAC _ _ _ _ _ hm HP6.out)
      replace HM := Lib.hid h
      clear h hm
      go_wp2_with fail
      refine NC.out.mono ?_
      rintro e w22 ⟨rfl, R23, hp, hf⟩
      have HP7 := Lib.hid hp
      have HF7 := Lib.hid (HF6.out.trans hf)
      have HXX7 := Lib.hid (HXX6.out.keep hf)
      clear HP6 HF6 HXX6 hp hf NC 
      obtain ⟨u, s24, hm, h⟩ := bind_out HM.out
      obtain ⟨hd, e1⟩ := deep_out hm
      replace HM := Lib.hid h
      have hs := HP7.out.see
      have c6 := hs.c6
      have f6 := hs.fz 6
      have hw := IntWalk.i64_in (s21.dp - 1) (by omega)
      have hset := HP7.out.setDp (s21.dp - 1)
      have HP8 : Hid (Par (w22.setCell ⟨P, 6, none⟩ (.int .i64 (s21.dp - 1))) P src T R23 s24) := Lib.hid (by rw [e1]; exact hset.1)
      have HF8 := Lib.hid (HF7.out.trans hset.2)
      have HXX8 := Lib.hid (HXX7.out.keep hset.2)
      clear h hm e1 hs hset HP7 HF7 HXX7
      generalize s21.dp = dp at *
      go_upto_region 10 with fail
      generalize w22.setCell ⟨P, 6, none⟩ (.int .i64 (dp - 1)) = w25 at *
      clear c6 f6 hw hd
      have NC := Lib.hid ((nodeC P src T).one HP8.out (7) (ln) (0) ([]) x HM.out)
      have zX0 := HXX8.out.cells 0 _ rfl
      have zX1 := HXX8.out.cells 1 _ rfl
      have zX2 := HXX8.out.cells 2 _ rfl
      have zX3 := HXX8.out.cells 3 _ rfl
      have zX4 := HXX8.out.cells 4 _ rfl
      go_wp2_with fail
      refine NC.out.mono ?_
      rintro e w26 ⟨rfl, R27, hp, hf⟩
      have HP9 := Lib.hid hp
      have HF9 := Lib.hid (HF8.out.trans hf)
      have HXX9 := Lib.hid (HXX8.out.keep hf)
      clear HP8 HF8 HXX8 hp hf NC zX0 zX1 zX2 zX3 zX4
      go_wp2_with fail
      go_ret
      exact ⟨rfl, _, HP9.out, HF9.out⟩
    | false =>
      have h := HM.out
      rw [if_neg (by decide)] at h
      replace HM := Lib.hid h
      clear h
      go_wp2_with fail
      refine IC.out.mono ?_
      rintro e w28 ⟨rfl, k1⟩
      have HP5 := Lib.hid (HP4.out.keep k1)
      have HF5 := Lib.hid (HF4.out.keeps k1)
      have HXX5 := Lib.hid (HXX4.out.keeps k1)
      clear HP4 HF4 HXX4 IC k1 
      have NC := Lib.hid ((atom_any hsz EX) _ _ _ _ _ HM.out HP5.out)
      go_wp2_with fail
      refine NC.out.mono ?_
      rintro e w29 ⟨rfl, R30, hp, hf⟩
      have HP6 := Lib.hid hp
      have HF6 := Lib.hid (HF5.out.trans hf)
      have HXX6 := Lib.hid (HXX5.out.keep hf)
      clear HP5 HF5 HXX5 hp hf NC 
      go_wp2_with fail
      go_ret
      exact ⟨rfl, _, HP6.out, HF6.out⟩

set_option maxRecDepth 100000 in
set_option maxHeartbeats 16000000 in
theorem endedC (P : Nat) (src : ByteArray) (T : List Tok) : NodeC P src T 114 (endedM T) := by
  intro k ln n x l s s' r R w a0 m0 c0 a c h hp hr hn
  have HRD := Lib.hid hr
  have HNR := Lib.hid hn
  have HP0 := Lib.hid hp
  have HF0 := Lib.hid (Fr.refl R w)
  have HLO := Lib.hid hp.lo
  have HM := Lib.hid h
  clear h hp
  go_enter Tryd.func114, Tryd.ntmps114
  clear hr hn
  go_upto_region 1 with fail
  have ka := Keeps.one w (.cells #[.int .i64 k, .int .i64 ln, .int .i64 n, .string (ofL x), .slice a0 m0 c0] 33)
  obtain ⟨X, hX⟩ : ∃ X, X = w.heap.size := ⟨_, rfl⟩
  obtain ⟨w1, hw⟩ : ∃ w1, w1 = w.alloc (.cells #[.int .i64 k, .int .i64 ln, .int .i64 n, .string (ofL x), .slice a0 m0 c0] 33) := ⟨_, rfl⟩
  have HXX1 : Hid (Loc w1 R X [.int .i64 k, .int .i64 ln, .int .i64 n, .string (ofL x), .slice a0 m0 c0]) := Lib.hid (by rw [hw, hX]; exact Loc.new HP0.out.new [.int .i64 k, .int .i64 ln, .int .i64 n, .string (ofL x), .slice a0 m0 c0] 33)
  have HWX : Hid (w.heap.size ≤ X) := Lib.hid (by rw [hX]; exact HF0.out.1.size)
  rw [← hX]
  rw [← hw] at ka ⊢
  have HP1 := Lib.hid (HP0.out.keep ka)
  have HF1 := Lib.hid (HF0.out.keeps ka)
  clear HP0 HF0 ka hw hX
  obtain ⟨s2, e1, h⟩ := mod_out HM.out
  have NC := Lib.hid (want_at HP1.out ({ data := #[59] }) e1)
  replace HM := Lib.hid h
  clear h e1
  go_wp2_with fail
  refine NC.out.mono ?_
  rintro e w3 ⟨rfl, R4, hp, hf⟩
  have HP2 := Lib.hid hp
  have HF2 := Lib.hid (HF1.out.trans hf)
  have HXX2 := Lib.hid (HXX1.out.keep hf)
  clear HP1 HF1 HXX1 hp hf NC 
  have NC := Lib.hid (nodeC P src T k ln n x l _ _ _ _ _ a0 m0 c0 a c HM.out HP2.out (HRD.out.keep HF2.out.1 (fun h0 b off e hb => by
    obtain ⟨X', off', e', hX, _⟩ := HNR.out h0
    rw [e] at e'
    cases e'
    exact hX hb)) (fun h0 => by
    obtain ⟨X', off', e', hX, hPX⟩ := HNR.out h0
    exact ⟨X', off', e', fun hb => hX (HF2.out.2 X' (HRD.out.lt h0 e') hb), hPX⟩))
  have zX0 := HXX2.out.cells 0 _ rfl
  have zX1 := HXX2.out.cells 1 _ rfl
  have zX2 := HXX2.out.cells 2 _ rfl
  have zX3 := HXX2.out.cells 3 _ rfl
  have zX4 := HXX2.out.cells 4 _ rfl
  go_wp2_with fail
  refine NC.out.mono ?_
  rintro e w9 ⟨rfl, R9, hp, hk, hb⟩
  have HZ : Hid (∃ R', Par w9 P src T R' s' ∧ Keeps R w w9 ∧ ∀ b, b < w.heap.size → R' b → R b ∨ ∃ off, a = some ⟨b, off, none⟩) := Lib.hid ⟨R9, hp, HF2.out.1.trans hk (fun x hx hr => HF2.out.2 x hx hr), fun b hb2 hr2 => (hb b (Nat.lt_of_lt_of_le hb2 HF2.out.1.size) hr2).imp (HF2.out.2 b hb2) id⟩
  clear hp hk hb NC zX0 zX1 zX2 zX3 zX4
  go_wp2_with fail
  go_ret
  exact ⟨rfl, HZ.out⟩

end Go.Proofs.YtgelggdgbmldiaaDoor
