/-
 Layer 2: chain. Written by an AI agent.
-/
import Derived.Deep.LoopGhost
import Derived.Test.YtbhpnioggpgbhaaGreatDoorMcan
namespace Go.Proofs.YtbhpnioggpgbhaaGreatDoor
open Go Go.RowKit Go.Shelf
set_option linter.unusedVariables false
set_option linter.unusedSimpArgs false
theorem is_row {P : Nat} {src : ByteArray} {T : List Tok} {R : Nat → Prop} {s : PS} {w : World} (h : Par w P src T R s) {Z n : Nat} (xs : List ByteArray) (hn : n = xs.length) (hn1 : n ≤ 10) (hz : Loc w R Z (xs.map Value.string)) {b : Bool} (hb : b = isS T (xs.map fun y => y.data.toList) s) :
  Calls Tryz.prog 62 #[.pointer (some ⟨P, 0, none⟩), .slice (some ⟨Z, 0, none⟩) n n] w fun e w' => e = .returned (.bool b) ∧ Keeps (fun _ => False) w w' := by
 rw [hb]
 exact is_any h xs Z 0 n hn (by omega) (fun j hj => by
  rw [Nat.zero_add]
  exact hz.cells j _ (by rw [List.getElem?_map, List.getElem?_eq_getElem (by omega)]; simp [List.getD, List.getElem?_eq_getElem (show j < xs.length by omega)]))
/-- The contract of chain at a level. -/
def ChC (P : Nat) (src : ByteArray) (T : List Tok) (lv : Int) (m : PM Int) : Prop :=
 ∀ (s : PS) (a : Int) (s1 : PS) (R : Nat → Prop) (w : World), m s = some (a, s1) → Par w P src T R s → Calls Tryz.prog 138 #[.pointer (some ⟨P, 0, none⟩), .int .i64 lv] w (Post P src T R w (.int .i64 a) s1)
set_option maxRecDepth 100000 in
set_option maxHeartbeats 16000000 in
theorem chain0_any {P : Nat} {src : ByteArray} {T : List Tok} {N : Nat} {sub : PM Int} (hsz : src.size ≤ 1000) (SUB : ChC P src T 1 sub) : ChC P src T 0 (do
  let ln ← ask (lineS src.data.toList T)
  let x ← sub
  chainR T 0 sub ln N x) := by
 intro s r s' R w h hp
 have HP0 := Lib.hid hp
 have HF0 := Lib.hid (Fr.refl R w)
 have HLO := Lib.hid hp.lo
 have HM := Lib.hid h
 clear h hp
 go_enter Tryz.func138, Tryz.ntmps138
 go_upto_region 14 with fail
 have ka := Keeps.one w (.cells #[.string { data := #[124, 124] }] 9)
 obtain ⟨Z, hZ⟩ : ∃ Z, Z = w.heap.size := ⟨_, rfl⟩
 obtain ⟨w1, hw⟩ : ∃ w1, w1 = w.alloc (.cells #[.string { data := #[124, 124] }] 9) := ⟨_, rfl⟩
 have HXZ1 : Hid (Loc w1 R Z [.string { data := #[124, 124] }]) := Lib.hid (by rw [hw, hZ]; exact Loc.new HP0.out.new [.string { data := #[124, 124] }] 9)
 have HWZ : Hid (w.heap.size ≤ Z) := Lib.hid (by rw [hZ]; exact HF0.out.1.size)
 rw [← hZ]
 rw [← hw] at ka ⊢
 have HP1 := Lib.hid (HP0.out.keep ka)
 have HF1 := Lib.hid (HF0.out.keeps ka)
 clear HP0 HF0 ka hw hZ
 obtain ⟨ln, hln, h⟩ := ask_out HM.out
 have LC := Lib.hid (line_at hsz HP1.out hln)
 replace HM := Lib.hid h
 clear h hln
 go_wp2_with fail
 refine LC.out.mono ?_
 rintro e w2 ⟨rfl, k1⟩
 have HP2 := Lib.hid (HP1.out.keep k1)
 have HF2 := Lib.hid (HF1.out.keeps k1)
 have HXZ2 := Lib.hid (HXZ1.out.keeps k1)
 clear HP1 HF1 HXZ1 LC k1 
 go_upto_region 15 with fail
 have ka := Keeps.one w2 (.cells #[.int .i64 9, .int .i64 ln, .int .i64 0, .string { data := #[] }, .slice none 0 0] 41)
 obtain ⟨X, hX⟩ : ∃ X, X = w2.heap.size := ⟨_, rfl⟩
 obtain ⟨w3, hw⟩ : ∃ w3, w3 = w2.alloc (.cells #[.int .i64 9, .int .i64 ln, .int .i64 0, .string { data := #[] }, .slice none 0 0] 41) := ⟨_, rfl⟩
 have HXX3 : Hid (Loc w3 R X [.int .i64 9, .int .i64 ln, .int .i64 0, .string (ofL []), .slice none 0 0]) := Lib.hid (by rw [hw, hX]; exact Loc.new HP2.out.new [.int .i64 9, .int .i64 ln, .int .i64 0, .string (ofL []), .slice none 0 0] 41)
 have HWX : Hid (w.heap.size ≤ X) := Lib.hid (by rw [hX]; exact HF2.out.1.size)
 rw [← hX]
 rw [← hw] at ka ⊢
 have HP3 := Lib.hid (HP2.out.keep ka)
 have HF3 := Lib.hid (HF2.out.keeps ka)
 have HXZ3 := Lib.hid (HXZ2.out.keeps ka)
 have HNXZ : Hid (¬ X = Z) := Lib.hid (fun e => by have := HXZ2.out.lt; omega)
 have HNZX : Hid (¬ Z = X) := Lib.hid (fun e => by have := HXZ2.out.lt; omega)
 clear HP2 HF2 HXZ2 ka hw hX
 obtain ⟨x0, s4, hm, h⟩ := bind_out HM.out
 have NC := Lib.hid (SUB _ _ _ _ _ hm HP3.out)
 replace HM := Lib.hid h
 clear h hm
 go_wp2_with fail
 refine NC.out.mono ?_
 rintro e w5 ⟨rfl, R6, hp, hf⟩
 have HP4 := Lib.hid hp
 have HF4 := Lib.hid (HF3.out.trans hf)
 have HXZ4 := Lib.hid (HXZ3.out.keep hf)
 have HXX4 := Lib.hid (HXX3.out.keep hf)
 clear HP3 HF3 HXZ3 HXX3 hp hf NC 
 go_wp2_with fail
 go_loopg [7, 8] N (fun k s7 s8 wr => ∃ (xx : List UInt8) (left : Int) (sk : PS) (Rk : Nat → Prop), s7 = .int .i64 left ∧ chainR T 0 sub ln k left sk = some (r, s') ∧ Par wr P src T Rk sk ∧ Fr R w Rk wr ∧ Loc wr Rk X [.int .i64 9, .int .i64 ln, .int .i64 0, .string (ofL xx), .slice none 0 0] ∧ Loc wr Rk Z [.string { data := #[124, 124] }])
 case atStart => exact ⟨[], x0, _, _, rfl, HM.out, HP4.out, HF4.out, HXX4.out, HXZ4.out⟩
 case round =>
  obtain ⟨xx, left, sk, Rk, rfl, hm, hp, hf, hx, hz⟩ := hrel
  clear HP4 HF4 HXZ4 HXX4 HM
  cases gk with
  | zero =>
   have h0 : (none : Option (Int × PS)) = some (r, s') := hm
   cases h0
  | succ k =>
   unfold chainR at hm
   have HP0 := Lib.hid hp
   have HF0 := Lib.hid hf
   have HXX0 := Lib.hid hx
   have HXZ0 := Lib.hid hz
   have HM := Lib.hid hm
   clear hp hf hx hz hm
   obtain ⟨b, hb, h⟩ := ask_out HM.out
   have IC := Lib.hid (is_row HP0.out (n := 1) [{ data := #[124, 124] }] rfl (by omega) HXZ0.out hb)
   replace HM := Lib.hid h
   clear h hb
   cases b with
   | true =>
    have h := HM.out
    rw [if_pos rfl] at h
    replace HM := Lib.hid h
    clear h
    go_wp2_with fail
    refine IC.out.mono ?_
    rintro e w7 ⟨rfl, k1⟩
    have HP1 := Lib.hid (HP0.out.keep k1)
    have HF1 := Lib.hid (HF0.out.keeps k1)
    have HXZ1 := Lib.hid (HXZ0.out.keeps k1)
    have HXX1 := Lib.hid (HXX0.out.keeps k1)
    clear HP0 HF0 HXZ0 HXX0 IC k1 
    have F1 : ∀ (tk : Tok) w, Sem.run Tryz.prog (Instr.field 77 (.agg #[.int .i64 (tk.k : Int), .string (ofL tk.x), .int .i64 (tk.p : Int)]) 1) w = .ok (.string (ofL tk.x)) w := fun tk w => tok_field1 _ _ _ w
    obtain ⟨tk, ht, h⟩ := ask_out HM.out
    have NC := Lib.hid (now_at HP1.out ht)
    replace HM := Lib.hid h
    clear h ht
    go_wp2_with fail
    refine NC.out.mono ?_
    rintro e w8 ⟨rfl, k1⟩
    have HP2 := Lib.hid (HP1.out.keep k1)
    have HF2 := Lib.hid (HF1.out.keeps k1)
    have HXZ2 := Lib.hid (HXZ1.out.keeps k1)
    have HXX2 := Lib.hid (HXX1.out.keeps k1)
    clear HP1 HF1 HXZ1 HXX1 NC k1 
    have zX3 := HXX2.out.cells 3 _ rfl
    have gX3 := HXX2.out.fz 3
    go_upto_region 18 with fail
    clear zX3 gX3 F1
    obtain ⟨w9, hw⟩ : ∃ w9, w9 = w8.setCell ⟨X, 3, none⟩ (.string (ofL tk.x)) := ⟨_, rfl⟩
    have HP3 := Lib.hid (HP2.out.local HXX2.out.out (Nat.lt_of_lt_of_le HLO.out HWX.out) 3 (.string (ofL tk.x)))
    have HF3 := Lib.hid (HF2.out.local HWX.out 3 (.string (ofL tk.x)))
    have HXX3 : Hid (Loc w9 Rk X [.int .i64 9, .int .i64 ln, .int .i64 0, .string (ofL tk.x), .slice none 0 0]) := Lib.hid (by rw [hw]; exact HXX2.out.set 3 (.string (ofL tk.x)) (by simp))
    rw [← hw] at HP3 HF3 ⊢
    have HXZ3 : Hid (Loc w9 Rk Z [.string { data := #[124, 124] }]) := Lib.hid (by rw [hw]; exact HXZ2.out.keepsR (S := fun b => b = X) ((Keeps.refl (fun b => b = X) w8).setCell (p := ⟨X, 3, none⟩) (fun _ => rfl) _) HNZX.out)
    clear HP2 HF2 HXZ2 HXX2 hw
    obtain ⟨s10, e1, h⟩ := mod_out HM.out
    have NC := Lib.hid (next_at HP3.out e1)
    replace HM := Lib.hid h
    clear h e1
    go_wp2_with fail
    refine NC.out.mono ?_
    rintro e w11 ⟨rfl, R12, hp, hf⟩
    have HP4 := Lib.hid hp
    have HF4 := Lib.hid (HF3.out.trans hf)
    have HXZ4 := Lib.hid (HXZ3.out.keep hf)
    have HXX4 := Lib.hid (HXX3.out.keep hf)
    clear HP3 HF3 HXZ3 HXX3 hp hf NC 
    obtain ⟨y, s13, hm, h⟩ := bind_out HM.out
    have NC := Lib.hid (SUB _ _ _ _ _ hm HP4.out)
    replace HM := Lib.hid h
    clear h hm
    go_wp2_with fail
    refine NC.out.mono ?_
    rintro e w14 ⟨rfl, R15, hp, hf⟩
    have HP5 := Lib.hid hp
    have HF5 := Lib.hid (HF4.out.trans hf)
    have HXZ5 := Lib.hid (HXZ4.out.keep hf)
    have HXX5 := Lib.hid (HXX4.out.keep hf)
    clear HP4 HF4 HXZ4 HXX4 hp hf NC 
    obtain ⟨x1, s16, hm, h⟩ := bind_out HM.out
    have NC := Lib.hid ((nodeC P src T).two HP5.out (9) (ln) (0) (tk.x) left y hm)
    replace HM := Lib.hid h
    clear h hm
    have zX0 := HXX5.out.cells 0 _ rfl
    have zX1 := HXX5.out.cells 1 _ rfl
    have zX2 := HXX5.out.cells 2 _ rfl
    have zX3 := HXX5.out.cells 3 _ rfl
    have zX4 := HXX5.out.cells 4 _ rfl
    go_wp2_with fail
    refine NC.out.mono ?_
    rintro e w17 ⟨rfl, R18, hp, hf⟩
    have HP6 := Lib.hid hp
    have HF6 := Lib.hid (HF5.out.trans hf)
    have HXZ6 := Lib.hid (HXZ5.out.keep hf)
    have HXX6 := Lib.hid (HXX5.out.keep hf)
    clear HP5 HF5 HXZ5 HXX5 hp hf NC zX0 zX1 zX2 zX3 zX4
    have h := HM.out
    rw [if_neg (by decide)] at h
    replace HM := Lib.hid h
    clear h
    go_wp2_with fail
    go_roundg k
    case measure => omega
    case rel => exact ⟨tk.x, x1, _, _, rfl, HM.out, HP6.out, HF6.out, HXX6.out, HXZ6.out⟩
   | false =>
    have h := HM.out
    rw [if_neg (by decide)] at h
    replace HM := Lib.hid h
    clear h
    go_wp2_with fail
    refine IC.out.mono ?_
    rintro e w19 ⟨rfl, k1⟩
    have HP1 := Lib.hid (HP0.out.keep k1)
    have HF1 := Lib.hid (HF0.out.keeps k1)
    have HXZ1 := Lib.hid (HXZ0.out.keeps k1)
    have HXX1 := Lib.hid (HXX0.out.keeps k1)
    clear HP0 HF0 HXZ0 HXX0 IC k1 
    obtain ⟨q1, q2⟩ := pure_end HM.out
    subst q1
    subst q2
    go_wp2_with fail
    go_ret
    exact ⟨rfl, _, HP1.out, HF1.out⟩
set_option maxRecDepth 100000 in
set_option maxHeartbeats 16000000 in
theorem chain1_any {P : Nat} {src : ByteArray} {T : List Tok} {N : Nat} {sub : PM Int} (hsz : src.size ≤ 1000) (SUB : ChC P src T 2 sub) : ChC P src T 1 (do
  let ln ← ask (lineS src.data.toList T)
  let x ← sub
  chainR T 1 sub ln N x) := by
 intro s r s' R w h hp
 have HP0 := Lib.hid hp
 have HF0 := Lib.hid (Fr.refl R w)
 have HLO := Lib.hid hp.lo
 have HM := Lib.hid h
 clear h hp
 go_enter Tryz.func138, Tryz.ntmps138
 go_upto_region 14 with fail
 have ka := Keeps.one w (.cells #[.string { data := #[38, 38] }] 9)
 obtain ⟨Z, hZ⟩ : ∃ Z, Z = w.heap.size := ⟨_, rfl⟩
 obtain ⟨w1, hw⟩ : ∃ w1, w1 = w.alloc (.cells #[.string { data := #[38, 38] }] 9) := ⟨_, rfl⟩
 have HXZ1 : Hid (Loc w1 R Z [.string { data := #[38, 38] }]) := Lib.hid (by rw [hw, hZ]; exact Loc.new HP0.out.new [.string { data := #[38, 38] }] 9)
 have HWZ : Hid (w.heap.size ≤ Z) := Lib.hid (by rw [hZ]; exact HF0.out.1.size)
 rw [← hZ]
 rw [← hw] at ka ⊢
 have HP1 := Lib.hid (HP0.out.keep ka)
 have HF1 := Lib.hid (HF0.out.keeps ka)
 clear HP0 HF0 ka hw hZ
 obtain ⟨ln, hln, h⟩ := ask_out HM.out
 have LC := Lib.hid (line_at hsz HP1.out hln)
 replace HM := Lib.hid h
 clear h hln
 go_wp2_with fail
 refine LC.out.mono ?_
 rintro e w2 ⟨rfl, k1⟩
 have HP2 := Lib.hid (HP1.out.keep k1)
 have HF2 := Lib.hid (HF1.out.keeps k1)
 have HXZ2 := Lib.hid (HXZ1.out.keeps k1)
 clear HP1 HF1 HXZ1 LC k1 
 go_upto_region 15 with fail
 have ka := Keeps.one w2 (.cells #[.int .i64 9, .int .i64 ln, .int .i64 0, .string { data := #[] }, .slice none 0 0] 41)
 obtain ⟨X, hX⟩ : ∃ X, X = w2.heap.size := ⟨_, rfl⟩
 obtain ⟨w3, hw⟩ : ∃ w3, w3 = w2.alloc (.cells #[.int .i64 9, .int .i64 ln, .int .i64 0, .string { data := #[] }, .slice none 0 0] 41) := ⟨_, rfl⟩
 have HXX3 : Hid (Loc w3 R X [.int .i64 9, .int .i64 ln, .int .i64 0, .string (ofL []), .slice none 0 0]) := Lib.hid (by rw [hw, hX]; exact Loc.new HP2.out.new [.int .i64 9, .int .i64 ln, .int .i64 0, .string (ofL []), .slice none 0 0] 41)
 have HWX : Hid (w.heap.size ≤ X) := Lib.hid (by rw [hX]; exact HF2.out.1.size)
 rw [← hX]
 rw [← hw] at ka ⊢
 have HP3 := Lib.hid (HP2.out.keep ka)
 have HF3 := Lib.hid (HF2.out.keeps ka)
 have HXZ3 := Lib.hid (HXZ2.out.keeps ka)
 have HNXZ : Hid (¬ X = Z) := Lib.hid (fun e => by have := HXZ2.out.lt; omega)
 have HNZX : Hid (¬ Z = X) := Lib.hid (fun e => by have := HXZ2.out.lt; omega)
 clear HP2 HF2 HXZ2 ka hw hX
 obtain ⟨x0, s4, hm, h⟩ := bind_out HM.out
 have NC := Lib.hid (SUB _ _ _ _ _ hm HP3.out)
 replace HM := Lib.hid h
 clear h hm
 go_wp2_with fail
 refine NC.out.mono ?_
 rintro e w5 ⟨rfl, R6, hp, hf⟩
 have HP4 := Lib.hid hp
 have HF4 := Lib.hid (HF3.out.trans hf)
 have HXZ4 := Lib.hid (HXZ3.out.keep hf)
 have HXX4 := Lib.hid (HXX3.out.keep hf)
 clear HP3 HF3 HXZ3 HXX3 hp hf NC 
 go_wp2_with fail
 go_loopg [7, 8] N (fun k s7 s8 wr => ∃ (xx : List UInt8) (left : Int) (sk : PS) (Rk : Nat → Prop), s7 = .int .i64 left ∧ chainR T 1 sub ln k left sk = some (r, s') ∧ Par wr P src T Rk sk ∧ Fr R w Rk wr ∧ Loc wr Rk X [.int .i64 9, .int .i64 ln, .int .i64 0, .string (ofL xx), .slice none 0 0] ∧ Loc wr Rk Z [.string { data := #[38, 38] }])
 case atStart => exact ⟨[], x0, _, _, rfl, HM.out, HP4.out, HF4.out, HXX4.out, HXZ4.out⟩
 case round =>
  obtain ⟨xx, left, sk, Rk, rfl, hm, hp, hf, hx, hz⟩ := hrel
  clear HP4 HF4 HXZ4 HXX4 HM
  cases gk with
  | zero =>
   have h0 : (none : Option (Int × PS)) = some (r, s') := hm
   cases h0
  | succ k =>
   unfold chainR at hm
   have HP0 := Lib.hid hp
   have HF0 := Lib.hid hf
   have HXX0 := Lib.hid hx
   have HXZ0 := Lib.hid hz
   have HM := Lib.hid hm
   clear hp hf hx hz hm
   obtain ⟨b, hb, h⟩ := ask_out HM.out
   have IC := Lib.hid (is_row HP0.out (n := 1) [{ data := #[38, 38] }] rfl (by omega) HXZ0.out hb)
   replace HM := Lib.hid h
   clear h hb
   cases b with
   | true =>
    have h := HM.out
    rw [if_pos rfl] at h
    replace HM := Lib.hid h
    clear h
    go_wp2_with fail
    refine IC.out.mono ?_
    rintro e w7 ⟨rfl, k1⟩
    have HP1 := Lib.hid (HP0.out.keep k1)
    have HF1 := Lib.hid (HF0.out.keeps k1)
    have HXZ1 := Lib.hid (HXZ0.out.keeps k1)
    have HXX1 := Lib.hid (HXX0.out.keeps k1)
    clear HP0 HF0 HXZ0 HXX0 IC k1 
    have F1 : ∀ (tk : Tok) w, Sem.run Tryz.prog (Instr.field 77 (.agg #[.int .i64 (tk.k : Int), .string (ofL tk.x), .int .i64 (tk.p : Int)]) 1) w = .ok (.string (ofL tk.x)) w := fun tk w => tok_field1 _ _ _ w
    obtain ⟨tk, ht, h⟩ := ask_out HM.out
    have NC := Lib.hid (now_at HP1.out ht)
    replace HM := Lib.hid h
    clear h ht
    go_wp2_with fail
    refine NC.out.mono ?_
    rintro e w8 ⟨rfl, k1⟩
    have HP2 := Lib.hid (HP1.out.keep k1)
    have HF2 := Lib.hid (HF1.out.keeps k1)
    have HXZ2 := Lib.hid (HXZ1.out.keeps k1)
    have HXX2 := Lib.hid (HXX1.out.keeps k1)
    clear HP1 HF1 HXZ1 HXX1 NC k1 
    have zX3 := HXX2.out.cells 3 _ rfl
    have gX3 := HXX2.out.fz 3
    go_upto_region 18 with fail
    clear zX3 gX3 F1
    obtain ⟨w9, hw⟩ : ∃ w9, w9 = w8.setCell ⟨X, 3, none⟩ (.string (ofL tk.x)) := ⟨_, rfl⟩
    have HP3 := Lib.hid (HP2.out.local HXX2.out.out (Nat.lt_of_lt_of_le HLO.out HWX.out) 3 (.string (ofL tk.x)))
    have HF3 := Lib.hid (HF2.out.local HWX.out 3 (.string (ofL tk.x)))
    have HXX3 : Hid (Loc w9 Rk X [.int .i64 9, .int .i64 ln, .int .i64 0, .string (ofL tk.x), .slice none 0 0]) := Lib.hid (by rw [hw]; exact HXX2.out.set 3 (.string (ofL tk.x)) (by simp))
    rw [← hw] at HP3 HF3 ⊢
    have HXZ3 : Hid (Loc w9 Rk Z [.string { data := #[38, 38] }]) := Lib.hid (by rw [hw]; exact HXZ2.out.keepsR (S := fun b => b = X) ((Keeps.refl (fun b => b = X) w8).setCell (p := ⟨X, 3, none⟩) (fun _ => rfl) _) HNZX.out)
    clear HP2 HF2 HXZ2 HXX2 hw
    obtain ⟨s10, e1, h⟩ := mod_out HM.out
    have NC := Lib.hid (next_at HP3.out e1)
    replace HM := Lib.hid h
    clear h e1
    go_wp2_with fail
    refine NC.out.mono ?_
    rintro e w11 ⟨rfl, R12, hp, hf⟩
    have HP4 := Lib.hid hp
    have HF4 := Lib.hid (HF3.out.trans hf)
    have HXZ4 := Lib.hid (HXZ3.out.keep hf)
    have HXX4 := Lib.hid (HXX3.out.keep hf)
    clear HP3 HF3 HXZ3 HXX3 hp hf NC 
    obtain ⟨y, s13, hm, h⟩ := bind_out HM.out
    have NC := Lib.hid (SUB _ _ _ _ _ hm HP4.out)
    replace HM := Lib.hid h
    clear h hm
    go_wp2_with fail
    refine NC.out.mono ?_
    rintro e w14 ⟨rfl, R15, hp, hf⟩
    have HP5 := Lib.hid hp
    have HF5 := Lib.hid (HF4.out.trans hf)
    have HXZ5 := Lib.hid (HXZ4.out.keep hf)
    have HXX5 := Lib.hid (HXX4.out.keep hf)
    clear HP4 HF4 HXZ4 HXX4 hp hf NC 
    obtain ⟨x1, s16, hm, h⟩ := bind_out HM.out
    have NC := Lib.hid ((nodeC P src T).two HP5.out (9) (ln) (0) (tk.x) left y hm)
    replace HM := Lib.hid h
    clear h hm
    have zX0 := HXX5.out.cells 0 _ rfl
    have zX1 := HXX5.out.cells 1 _ rfl
    have zX2 := HXX5.out.cells 2 _ rfl
    have zX3 := HXX5.out.cells 3 _ rfl
    have zX4 := HXX5.out.cells 4 _ rfl
    go_wp2_with fail
    refine NC.out.mono ?_
    rintro e w17 ⟨rfl, R18, hp, hf⟩
    have HP6 := Lib.hid hp
    have HF6 := Lib.hid (HF5.out.trans hf)
    have HXZ6 := Lib.hid (HXZ5.out.keep hf)
    have HXX6 := Lib.hid (HXX5.out.keep hf)
    clear HP5 HF5 HXZ5 HXX5 hp hf NC zX0 zX1 zX2 zX3 zX4
    have h := HM.out
    rw [if_neg (by decide)] at h
    replace HM := Lib.hid h
    clear h
    go_wp2_with fail
    go_roundg k
    case measure => omega
    case rel => exact ⟨tk.x, x1, _, _, rfl, HM.out, HP6.out, HF6.out, HXX6.out, HXZ6.out⟩
   | false =>
    have h := HM.out
    rw [if_neg (by decide)] at h
    replace HM := Lib.hid h
    clear h
    go_wp2_with fail
    refine IC.out.mono ?_
    rintro e w19 ⟨rfl, k1⟩
    have HP1 := Lib.hid (HP0.out.keep k1)
    have HF1 := Lib.hid (HF0.out.keeps k1)
    have HXZ1 := Lib.hid (HXZ0.out.keeps k1)
    have HXX1 := Lib.hid (HXX0.out.keeps k1)
    clear HP0 HF0 HXZ0 HXX0 IC k1 
    obtain ⟨q1, q2⟩ := pure_end HM.out
    subst q1
    subst q2
    go_wp2_with fail
    go_ret
    exact ⟨rfl, _, HP1.out, HF1.out⟩
set_option maxRecDepth 100000 in
set_option maxHeartbeats 16000000 in
theorem chain2_any {P : Nat} {src : ByteArray} {T : List Tok} {N : Nat} {sub : PM Int} (hsz : src.size ≤ 1000) (SUB : ChC P src T 3 sub) : ChC P src T 2 (do
  let ln ← ask (lineS src.data.toList T)
  let x ← sub
  chainR T 2 sub ln N x) := by
 intro s r s' R w h hp
 have HP0 := Lib.hid hp
 have HF0 := Lib.hid (Fr.refl R w)
 have HLO := Lib.hid hp.lo
 have HM := Lib.hid h
 clear h hp
 go_enter Tryz.func138, Tryz.ntmps138
 go_upto_region 14 with fail
 have ka := Keeps.one w (.cells #[.string { data := #[60] }, .string { data := #[60, 61] }, .string { data := #[61, 61] }, .string { data := #[33, 61] }] 9)
 obtain ⟨Z, hZ⟩ : ∃ Z, Z = w.heap.size := ⟨_, rfl⟩
 obtain ⟨w1, hw⟩ : ∃ w1, w1 = w.alloc (.cells #[.string { data := #[60] }, .string { data := #[60, 61] }, .string { data := #[61, 61] }, .string { data := #[33, 61] }] 9) := ⟨_, rfl⟩
 have HXZ1 : Hid (Loc w1 R Z [.string { data := #[60] }, .string { data := #[60, 61] }, .string { data := #[61, 61] }, .string { data := #[33, 61] }]) := Lib.hid (by rw [hw, hZ]; exact Loc.new HP0.out.new [.string { data := #[60] }, .string { data := #[60, 61] }, .string { data := #[61, 61] }, .string { data := #[33, 61] }] 9)
 have HWZ : Hid (w.heap.size ≤ Z) := Lib.hid (by rw [hZ]; exact HF0.out.1.size)
 rw [← hZ]
 rw [← hw] at ka ⊢
 have HP1 := Lib.hid (HP0.out.keep ka)
 have HF1 := Lib.hid (HF0.out.keeps ka)
 clear HP0 HF0 ka hw hZ
 obtain ⟨ln, hln, h⟩ := ask_out HM.out
 have LC := Lib.hid (line_at hsz HP1.out hln)
 replace HM := Lib.hid h
 clear h hln
 go_wp2_with fail
 refine LC.out.mono ?_
 rintro e w2 ⟨rfl, k1⟩
 have HP2 := Lib.hid (HP1.out.keep k1)
 have HF2 := Lib.hid (HF1.out.keeps k1)
 have HXZ2 := Lib.hid (HXZ1.out.keeps k1)
 clear HP1 HF1 HXZ1 LC k1 
 go_upto_region 15 with fail
 have ka := Keeps.one w2 (.cells #[.int .i64 9, .int .i64 ln, .int .i64 0, .string { data := #[] }, .slice none 0 0] 41)
 obtain ⟨X, hX⟩ : ∃ X, X = w2.heap.size := ⟨_, rfl⟩
 obtain ⟨w3, hw⟩ : ∃ w3, w3 = w2.alloc (.cells #[.int .i64 9, .int .i64 ln, .int .i64 0, .string { data := #[] }, .slice none 0 0] 41) := ⟨_, rfl⟩
 have HXX3 : Hid (Loc w3 R X [.int .i64 9, .int .i64 ln, .int .i64 0, .string (ofL []), .slice none 0 0]) := Lib.hid (by rw [hw, hX]; exact Loc.new HP2.out.new [.int .i64 9, .int .i64 ln, .int .i64 0, .string (ofL []), .slice none 0 0] 41)
 have HWX : Hid (w.heap.size ≤ X) := Lib.hid (by rw [hX]; exact HF2.out.1.size)
 rw [← hX]
 rw [← hw] at ka ⊢
 have HP3 := Lib.hid (HP2.out.keep ka)
 have HF3 := Lib.hid (HF2.out.keeps ka)
 have HXZ3 := Lib.hid (HXZ2.out.keeps ka)
 have HNXZ : Hid (¬ X = Z) := Lib.hid (fun e => by have := HXZ2.out.lt; omega)
 have HNZX : Hid (¬ Z = X) := Lib.hid (fun e => by have := HXZ2.out.lt; omega)
 clear HP2 HF2 HXZ2 ka hw hX
 obtain ⟨x0, s4, hm, h⟩ := bind_out HM.out
 have NC := Lib.hid (SUB _ _ _ _ _ hm HP3.out)
 replace HM := Lib.hid h
 clear h hm
 go_wp2_with fail
 refine NC.out.mono ?_
 rintro e w5 ⟨rfl, R6, hp, hf⟩
 have HP4 := Lib.hid hp
 have HF4 := Lib.hid (HF3.out.trans hf)
 have HXZ4 := Lib.hid (HXZ3.out.keep hf)
 have HXX4 := Lib.hid (HXX3.out.keep hf)
 clear HP3 HF3 HXZ3 HXX3 hp hf NC 
 go_wp2_with fail
 go_loopg [7, 8] N (fun k s7 s8 wr => ∃ (xx : List UInt8) (left : Int) (sk : PS) (Rk : Nat → Prop), s7 = .int .i64 left ∧ chainR T 2 sub ln k left sk = some (r, s') ∧ Par wr P src T Rk sk ∧ Fr R w Rk wr ∧ Loc wr Rk X [.int .i64 9, .int .i64 ln, .int .i64 0, .string (ofL xx), .slice none 0 0] ∧ Loc wr Rk Z [.string { data := #[60] }, .string { data := #[60, 61] }, .string { data := #[61, 61] }, .string { data := #[33, 61] }])
 case atStart => exact ⟨[], x0, _, _, rfl, HM.out, HP4.out, HF4.out, HXX4.out, HXZ4.out⟩
 case round =>
  obtain ⟨xx, left, sk, Rk, rfl, hm, hp, hf, hx, hz⟩ := hrel
  clear HP4 HF4 HXZ4 HXX4 HM
  cases gk with
  | zero =>
   have h0 : (none : Option (Int × PS)) = some (r, s') := hm
   cases h0
  | succ k =>
   unfold chainR at hm
   have HP0 := Lib.hid hp
   have HF0 := Lib.hid hf
   have HXX0 := Lib.hid hx
   have HXZ0 := Lib.hid hz
   have HM := Lib.hid hm
   clear hp hf hx hz hm
   obtain ⟨b, hb, h⟩ := ask_out HM.out
   have IC := Lib.hid (is_row HP0.out (n := 4) [{ data := #[60] }, { data := #[60, 61] }, { data := #[61, 61] }, { data := #[33, 61] }] rfl (by omega) HXZ0.out hb)
   replace HM := Lib.hid h
   clear h hb
   cases b with
   | true =>
    have h := HM.out
    rw [if_pos rfl] at h
    replace HM := Lib.hid h
    clear h
    go_wp2_with fail
    refine IC.out.mono ?_
    rintro e w7 ⟨rfl, k1⟩
    have HP1 := Lib.hid (HP0.out.keep k1)
    have HF1 := Lib.hid (HF0.out.keeps k1)
    have HXZ1 := Lib.hid (HXZ0.out.keeps k1)
    have HXX1 := Lib.hid (HXX0.out.keeps k1)
    clear HP0 HF0 HXZ0 HXX0 IC k1 
    have F1 : ∀ (tk : Tok) w, Sem.run Tryz.prog (Instr.field 77 (.agg #[.int .i64 (tk.k : Int), .string (ofL tk.x), .int .i64 (tk.p : Int)]) 1) w = .ok (.string (ofL tk.x)) w := fun tk w => tok_field1 _ _ _ w
    obtain ⟨tk, ht, h⟩ := ask_out HM.out
    have NC := Lib.hid (now_at HP1.out ht)
    replace HM := Lib.hid h
    clear h ht
    go_wp2_with fail
    refine NC.out.mono ?_
    rintro e w8 ⟨rfl, k1⟩
    have HP2 := Lib.hid (HP1.out.keep k1)
    have HF2 := Lib.hid (HF1.out.keeps k1)
    have HXZ2 := Lib.hid (HXZ1.out.keeps k1)
    have HXX2 := Lib.hid (HXX1.out.keeps k1)
    clear HP1 HF1 HXZ1 HXX1 NC k1 
    have zX3 := HXX2.out.cells 3 _ rfl
    have gX3 := HXX2.out.fz 3
    go_upto_region 18 with fail
    clear zX3 gX3 F1
    obtain ⟨w9, hw⟩ : ∃ w9, w9 = w8.setCell ⟨X, 3, none⟩ (.string (ofL tk.x)) := ⟨_, rfl⟩
    have HP3 := Lib.hid (HP2.out.local HXX2.out.out (Nat.lt_of_lt_of_le HLO.out HWX.out) 3 (.string (ofL tk.x)))
    have HF3 := Lib.hid (HF2.out.local HWX.out 3 (.string (ofL tk.x)))
    have HXX3 : Hid (Loc w9 Rk X [.int .i64 9, .int .i64 ln, .int .i64 0, .string (ofL tk.x), .slice none 0 0]) := Lib.hid (by rw [hw]; exact HXX2.out.set 3 (.string (ofL tk.x)) (by simp))
    rw [← hw] at HP3 HF3 ⊢
    have HXZ3 : Hid (Loc w9 Rk Z [.string { data := #[60] }, .string { data := #[60, 61] }, .string { data := #[61, 61] }, .string { data := #[33, 61] }]) := Lib.hid (by rw [hw]; exact HXZ2.out.keepsR (S := fun b => b = X) ((Keeps.refl (fun b => b = X) w8).setCell (p := ⟨X, 3, none⟩) (fun _ => rfl) _) HNZX.out)
    clear HP2 HF2 HXZ2 HXX2 hw
    obtain ⟨s10, e1, h⟩ := mod_out HM.out
    have NC := Lib.hid (next_at HP3.out e1)
    replace HM := Lib.hid h
    clear h e1
    go_wp2_with fail
    refine NC.out.mono ?_
    rintro e w11 ⟨rfl, R12, hp, hf⟩
    have HP4 := Lib.hid hp
    have HF4 := Lib.hid (HF3.out.trans hf)
    have HXZ4 := Lib.hid (HXZ3.out.keep hf)
    have HXX4 := Lib.hid (HXX3.out.keep hf)
    clear HP3 HF3 HXZ3 HXX3 hp hf NC 
    obtain ⟨y, s13, hm, h⟩ := bind_out HM.out
    have NC := Lib.hid (SUB _ _ _ _ _ hm HP4.out)
    replace HM := Lib.hid h
    clear h hm
    go_wp2_with fail
    refine NC.out.mono ?_
    rintro e w14 ⟨rfl, R15, hp, hf⟩
    have HP5 := Lib.hid hp
    have HF5 := Lib.hid (HF4.out.trans hf)
    have HXZ5 := Lib.hid (HXZ4.out.keep hf)
    have HXX5 := Lib.hid (HXX4.out.keep hf)
    clear HP4 HF4 HXZ4 HXX4 hp hf NC 
    obtain ⟨x1, s16, hm, h⟩ := bind_out HM.out
    have NC := Lib.hid ((nodeC P src T).two HP5.out (9) (ln) (0) (tk.x) left y hm)
    replace HM := Lib.hid h
    clear h hm
    have zX0 := HXX5.out.cells 0 _ rfl
    have zX1 := HXX5.out.cells 1 _ rfl
    have zX2 := HXX5.out.cells 2 _ rfl
    have zX3 := HXX5.out.cells 3 _ rfl
    have zX4 := HXX5.out.cells 4 _ rfl
    go_wp2_with fail
    refine NC.out.mono ?_
    rintro e w17 ⟨rfl, R18, hp, hf⟩
    have HP6 := Lib.hid hp
    have HF6 := Lib.hid (HF5.out.trans hf)
    have HXZ6 := Lib.hid (HXZ5.out.keep hf)
    have HXX6 := Lib.hid (HXX5.out.keep hf)
    clear HP5 HF5 HXZ5 HXX5 hp hf NC zX0 zX1 zX2 zX3 zX4
    have h := HM.out
    first | rw [if_pos trivial] at h | rw [if_pos rfl] at h
    replace HM := Lib.hid h
    clear h
    obtain ⟨q1, q2⟩ := pure_end HM.out
    subst q1
    subst q2
    go_wp2_with fail
    go_ret
    exact ⟨rfl, _, HP6.out, HF6.out⟩
   | false =>
    have h := HM.out
    rw [if_neg (by decide)] at h
    replace HM := Lib.hid h
    clear h
    go_wp2_with fail
    refine IC.out.mono ?_
    rintro e w19 ⟨rfl, k1⟩
    have HP1 := Lib.hid (HP0.out.keep k1)
    have HF1 := Lib.hid (HF0.out.keeps k1)
    have HXZ1 := Lib.hid (HXZ0.out.keeps k1)
    have HXX1 := Lib.hid (HXX0.out.keeps k1)
    clear HP0 HF0 HXZ0 HXX0 IC k1 
    obtain ⟨q1, q2⟩ := pure_end HM.out
    subst q1
    subst q2
    go_wp2_with fail
    go_ret
    exact ⟨rfl, _, HP1.out, HF1.out⟩
set_option maxRecDepth 100000 in
set_option maxHeartbeats 16000000 in
theorem chain3_any {P : Nat} {src : ByteArray} {T : List Tok} {N : Nat} {sub : PM Int} (hsz : src.size ≤ 1000) (SUB : ChC P src T 4 sub) : ChC P src T 3 (do
  let ln ← ask (lineS src.data.toList T)
  let x ← sub
  chainR T 3 sub ln N x) := by
 intro s r s' R w h hp
 have HP0 := Lib.hid hp
 have HF0 := Lib.hid (Fr.refl R w)
 have HLO := Lib.hid hp.lo
 have HM := Lib.hid h
 clear h hp
 go_enter Tryz.func138, Tryz.ntmps138
 go_upto_region 14 with fail
 have ka := Keeps.one w (.cells #[.string { data := #[43] }, .string { data := #[45] }] 9)
 obtain ⟨Z, hZ⟩ : ∃ Z, Z = w.heap.size := ⟨_, rfl⟩
 obtain ⟨w1, hw⟩ : ∃ w1, w1 = w.alloc (.cells #[.string { data := #[43] }, .string { data := #[45] }] 9) := ⟨_, rfl⟩
 have HXZ1 : Hid (Loc w1 R Z [.string { data := #[43] }, .string { data := #[45] }]) := Lib.hid (by rw [hw, hZ]; exact Loc.new HP0.out.new [.string { data := #[43] }, .string { data := #[45] }] 9)
 have HWZ : Hid (w.heap.size ≤ Z) := Lib.hid (by rw [hZ]; exact HF0.out.1.size)
 rw [← hZ]
 rw [← hw] at ka ⊢
 have HP1 := Lib.hid (HP0.out.keep ka)
 have HF1 := Lib.hid (HF0.out.keeps ka)
 clear HP0 HF0 ka hw hZ
 obtain ⟨ln, hln, h⟩ := ask_out HM.out
 have LC := Lib.hid (line_at hsz HP1.out hln)
 replace HM := Lib.hid h
 clear h hln
 go_wp2_with fail
 refine LC.out.mono ?_
 rintro e w2 ⟨rfl, k1⟩
 have HP2 := Lib.hid (HP1.out.keep k1)
 have HF2 := Lib.hid (HF1.out.keeps k1)
 have HXZ2 := Lib.hid (HXZ1.out.keeps k1)
 clear HP1 HF1 HXZ1 LC k1 
 go_upto_region 15 with fail
 have ka := Keeps.one w2 (.cells #[.int .i64 9, .int .i64 ln, .int .i64 0, .string { data := #[] }, .slice none 0 0] 41)
 obtain ⟨X, hX⟩ : ∃ X, X = w2.heap.size := ⟨_, rfl⟩
 obtain ⟨w3, hw⟩ : ∃ w3, w3 = w2.alloc (.cells #[.int .i64 9, .int .i64 ln, .int .i64 0, .string { data := #[] }, .slice none 0 0] 41) := ⟨_, rfl⟩
 have HXX3 : Hid (Loc w3 R X [.int .i64 9, .int .i64 ln, .int .i64 0, .string (ofL []), .slice none 0 0]) := Lib.hid (by rw [hw, hX]; exact Loc.new HP2.out.new [.int .i64 9, .int .i64 ln, .int .i64 0, .string (ofL []), .slice none 0 0] 41)
 have HWX : Hid (w.heap.size ≤ X) := Lib.hid (by rw [hX]; exact HF2.out.1.size)
 rw [← hX]
 rw [← hw] at ka ⊢
 have HP3 := Lib.hid (HP2.out.keep ka)
 have HF3 := Lib.hid (HF2.out.keeps ka)
 have HXZ3 := Lib.hid (HXZ2.out.keeps ka)
 have HNXZ : Hid (¬ X = Z) := Lib.hid (fun e => by have := HXZ2.out.lt; omega)
 have HNZX : Hid (¬ Z = X) := Lib.hid (fun e => by have := HXZ2.out.lt; omega)
 clear HP2 HF2 HXZ2 ka hw hX
 obtain ⟨x0, s4, hm, h⟩ := bind_out HM.out
 have NC := Lib.hid (SUB _ _ _ _ _ hm HP3.out)
 replace HM := Lib.hid h
 clear h hm
 go_wp2_with fail
 refine NC.out.mono ?_
 rintro e w5 ⟨rfl, R6, hp, hf⟩
 have HP4 := Lib.hid hp
 have HF4 := Lib.hid (HF3.out.trans hf)
 have HXZ4 := Lib.hid (HXZ3.out.keep hf)
 have HXX4 := Lib.hid (HXX3.out.keep hf)
 clear HP3 HF3 HXZ3 HXX3 hp hf NC 
 go_wp2_with fail
 go_loopg [7, 8] N (fun k s7 s8 wr => ∃ (xx : List UInt8) (left : Int) (sk : PS) (Rk : Nat → Prop), s7 = .int .i64 left ∧ chainR T 3 sub ln k left sk = some (r, s') ∧ Par wr P src T Rk sk ∧ Fr R w Rk wr ∧ Loc wr Rk X [.int .i64 9, .int .i64 ln, .int .i64 0, .string (ofL xx), .slice none 0 0] ∧ Loc wr Rk Z [.string { data := #[43] }, .string { data := #[45] }])
 case atStart => exact ⟨[], x0, _, _, rfl, HM.out, HP4.out, HF4.out, HXX4.out, HXZ4.out⟩
 case round =>
  obtain ⟨xx, left, sk, Rk, rfl, hm, hp, hf, hx, hz⟩ := hrel
  clear HP4 HF4 HXZ4 HXX4 HM
  cases gk with
  | zero =>
   have h0 : (none : Option (Int × PS)) = some (r, s') := hm
   cases h0
  | succ k =>
   unfold chainR at hm
   have HP0 := Lib.hid hp
   have HF0 := Lib.hid hf
   have HXX0 := Lib.hid hx
   have HXZ0 := Lib.hid hz
   have HM := Lib.hid hm
   clear hp hf hx hz hm
   obtain ⟨b, hb, h⟩ := ask_out HM.out
   have IC := Lib.hid (is_row HP0.out (n := 2) [{ data := #[43] }, { data := #[45] }] rfl (by omega) HXZ0.out hb)
   replace HM := Lib.hid h
   clear h hb
   cases b with
   | true =>
    have h := HM.out
    rw [if_pos rfl] at h
    replace HM := Lib.hid h
    clear h
    go_wp2_with fail
    refine IC.out.mono ?_
    rintro e w7 ⟨rfl, k1⟩
    have HP1 := Lib.hid (HP0.out.keep k1)
    have HF1 := Lib.hid (HF0.out.keeps k1)
    have HXZ1 := Lib.hid (HXZ0.out.keeps k1)
    have HXX1 := Lib.hid (HXX0.out.keeps k1)
    clear HP0 HF0 HXZ0 HXX0 IC k1 
    have F1 : ∀ (tk : Tok) w, Sem.run Tryz.prog (Instr.field 77 (.agg #[.int .i64 (tk.k : Int), .string (ofL tk.x), .int .i64 (tk.p : Int)]) 1) w = .ok (.string (ofL tk.x)) w := fun tk w => tok_field1 _ _ _ w
    obtain ⟨tk, ht, h⟩ := ask_out HM.out
    have NC := Lib.hid (now_at HP1.out ht)
    replace HM := Lib.hid h
    clear h ht
    go_wp2_with fail
    refine NC.out.mono ?_
    rintro e w8 ⟨rfl, k1⟩
    have HP2 := Lib.hid (HP1.out.keep k1)
    have HF2 := Lib.hid (HF1.out.keeps k1)
    have HXZ2 := Lib.hid (HXZ1.out.keeps k1)
    have HXX2 := Lib.hid (HXX1.out.keeps k1)
    clear HP1 HF1 HXZ1 HXX1 NC k1 
    have zX3 := HXX2.out.cells 3 _ rfl
    have gX3 := HXX2.out.fz 3
    go_upto_region 18 with fail
    clear zX3 gX3 F1
    obtain ⟨w9, hw⟩ : ∃ w9, w9 = w8.setCell ⟨X, 3, none⟩ (.string (ofL tk.x)) := ⟨_, rfl⟩
    have HP3 := Lib.hid (HP2.out.local HXX2.out.out (Nat.lt_of_lt_of_le HLO.out HWX.out) 3 (.string (ofL tk.x)))
    have HF3 := Lib.hid (HF2.out.local HWX.out 3 (.string (ofL tk.x)))
    have HXX3 : Hid (Loc w9 Rk X [.int .i64 9, .int .i64 ln, .int .i64 0, .string (ofL tk.x), .slice none 0 0]) := Lib.hid (by rw [hw]; exact HXX2.out.set 3 (.string (ofL tk.x)) (by simp))
    rw [← hw] at HP3 HF3 ⊢
    have HXZ3 : Hid (Loc w9 Rk Z [.string { data := #[43] }, .string { data := #[45] }]) := Lib.hid (by rw [hw]; exact HXZ2.out.keepsR (S := fun b => b = X) ((Keeps.refl (fun b => b = X) w8).setCell (p := ⟨X, 3, none⟩) (fun _ => rfl) _) HNZX.out)
    clear HP2 HF2 HXZ2 HXX2 hw
    obtain ⟨s10, e1, h⟩ := mod_out HM.out
    have NC := Lib.hid (next_at HP3.out e1)
    replace HM := Lib.hid h
    clear h e1
    go_wp2_with fail
    refine NC.out.mono ?_
    rintro e w11 ⟨rfl, R12, hp, hf⟩
    have HP4 := Lib.hid hp
    have HF4 := Lib.hid (HF3.out.trans hf)
    have HXZ4 := Lib.hid (HXZ3.out.keep hf)
    have HXX4 := Lib.hid (HXX3.out.keep hf)
    clear HP3 HF3 HXZ3 HXX3 hp hf NC 
    obtain ⟨y, s13, hm, h⟩ := bind_out HM.out
    have NC := Lib.hid (SUB _ _ _ _ _ hm HP4.out)
    replace HM := Lib.hid h
    clear h hm
    go_wp2_with fail
    refine NC.out.mono ?_
    rintro e w14 ⟨rfl, R15, hp, hf⟩
    have HP5 := Lib.hid hp
    have HF5 := Lib.hid (HF4.out.trans hf)
    have HXZ5 := Lib.hid (HXZ4.out.keep hf)
    have HXX5 := Lib.hid (HXX4.out.keep hf)
    clear HP4 HF4 HXZ4 HXX4 hp hf NC 
    obtain ⟨x1, s16, hm, h⟩ := bind_out HM.out
    have NC := Lib.hid ((nodeC P src T).two HP5.out (9) (ln) (0) (tk.x) left y hm)
    replace HM := Lib.hid h
    clear h hm
    have zX0 := HXX5.out.cells 0 _ rfl
    have zX1 := HXX5.out.cells 1 _ rfl
    have zX2 := HXX5.out.cells 2 _ rfl
    have zX3 := HXX5.out.cells 3 _ rfl
    have zX4 := HXX5.out.cells 4 _ rfl
    go_wp2_with fail
    refine NC.out.mono ?_
    rintro e w17 ⟨rfl, R18, hp, hf⟩
    have HP6 := Lib.hid hp
    have HF6 := Lib.hid (HF5.out.trans hf)
    have HXZ6 := Lib.hid (HXZ5.out.keep hf)
    have HXX6 := Lib.hid (HXX5.out.keep hf)
    clear HP5 HF5 HXZ5 HXX5 hp hf NC zX0 zX1 zX2 zX3 zX4
    have h := HM.out
    rw [if_neg (by decide)] at h
    replace HM := Lib.hid h
    clear h
    go_wp2_with fail
    go_roundg k
    case measure => omega
    case rel => exact ⟨tk.x, x1, _, _, rfl, HM.out, HP6.out, HF6.out, HXX6.out, HXZ6.out⟩
   | false =>
    have h := HM.out
    rw [if_neg (by decide)] at h
    replace HM := Lib.hid h
    clear h
    go_wp2_with fail
    refine IC.out.mono ?_
    rintro e w19 ⟨rfl, k1⟩
    have HP1 := Lib.hid (HP0.out.keep k1)
    have HF1 := Lib.hid (HF0.out.keeps k1)
    have HXZ1 := Lib.hid (HXZ0.out.keeps k1)
    have HXX1 := Lib.hid (HXX0.out.keeps k1)
    clear HP0 HF0 HXZ0 HXX0 IC k1 
    obtain ⟨q1, q2⟩ := pure_end HM.out
    subst q1
    subst q2
    go_wp2_with fail
    go_ret
    exact ⟨rfl, _, HP1.out, HF1.out⟩
set_option maxRecDepth 100000 in
set_option maxHeartbeats 16000000 in
theorem chain4_any {P : Nat} {src : ByteArray} {T : List Tok} {N : Nat} {sub : PM Int} (hsz : src.size ≤ 1000) (SUB : ChC P src T 5 sub) : ChC P src T 4 (do
  let ln ← ask (lineS src.data.toList T)
  let x ← sub
  chainR T 4 sub ln N x) := by
 intro s r s' R w h hp
 have HP0 := Lib.hid hp
 have HF0 := Lib.hid (Fr.refl R w)
 have HLO := Lib.hid hp.lo
 have HM := Lib.hid h
 clear h hp
 go_enter Tryz.func138, Tryz.ntmps138
 go_upto_region 14 with fail
 have ka := Keeps.one w (.cells #[.string { data := #[42] }, .string { data := #[47] }, .string { data := #[37] }] 9)
 obtain ⟨Z, hZ⟩ : ∃ Z, Z = w.heap.size := ⟨_, rfl⟩
 obtain ⟨w1, hw⟩ : ∃ w1, w1 = w.alloc (.cells #[.string { data := #[42] }, .string { data := #[47] }, .string { data := #[37] }] 9) := ⟨_, rfl⟩
 have HXZ1 : Hid (Loc w1 R Z [.string { data := #[42] }, .string { data := #[47] }, .string { data := #[37] }]) := Lib.hid (by rw [hw, hZ]; exact Loc.new HP0.out.new [.string { data := #[42] }, .string { data := #[47] }, .string { data := #[37] }] 9)
 have HWZ : Hid (w.heap.size ≤ Z) := Lib.hid (by rw [hZ]; exact HF0.out.1.size)
 rw [← hZ]
 rw [← hw] at ka ⊢
 have HP1 := Lib.hid (HP0.out.keep ka)
 have HF1 := Lib.hid (HF0.out.keeps ka)
 clear HP0 HF0 ka hw hZ
 obtain ⟨ln, hln, h⟩ := ask_out HM.out
 have LC := Lib.hid (line_at hsz HP1.out hln)
 replace HM := Lib.hid h
 clear h hln
 go_wp2_with fail
 refine LC.out.mono ?_
 rintro e w2 ⟨rfl, k1⟩
 have HP2 := Lib.hid (HP1.out.keep k1)
 have HF2 := Lib.hid (HF1.out.keeps k1)
 have HXZ2 := Lib.hid (HXZ1.out.keeps k1)
 clear HP1 HF1 HXZ1 LC k1 
 go_upto_region 15 with fail
 have ka := Keeps.one w2 (.cells #[.int .i64 9, .int .i64 ln, .int .i64 0, .string { data := #[] }, .slice none 0 0] 41)
 obtain ⟨X, hX⟩ : ∃ X, X = w2.heap.size := ⟨_, rfl⟩
 obtain ⟨w3, hw⟩ : ∃ w3, w3 = w2.alloc (.cells #[.int .i64 9, .int .i64 ln, .int .i64 0, .string { data := #[] }, .slice none 0 0] 41) := ⟨_, rfl⟩
 have HXX3 : Hid (Loc w3 R X [.int .i64 9, .int .i64 ln, .int .i64 0, .string (ofL []), .slice none 0 0]) := Lib.hid (by rw [hw, hX]; exact Loc.new HP2.out.new [.int .i64 9, .int .i64 ln, .int .i64 0, .string (ofL []), .slice none 0 0] 41)
 have HWX : Hid (w.heap.size ≤ X) := Lib.hid (by rw [hX]; exact HF2.out.1.size)
 rw [← hX]
 rw [← hw] at ka ⊢
 have HP3 := Lib.hid (HP2.out.keep ka)
 have HF3 := Lib.hid (HF2.out.keeps ka)
 have HXZ3 := Lib.hid (HXZ2.out.keeps ka)
 have HNXZ : Hid (¬ X = Z) := Lib.hid (fun e => by have := HXZ2.out.lt; omega)
 have HNZX : Hid (¬ Z = X) := Lib.hid (fun e => by have := HXZ2.out.lt; omega)
 clear HP2 HF2 HXZ2 ka hw hX
 obtain ⟨x0, s4, hm, h⟩ := bind_out HM.out
 have NC := Lib.hid (SUB _ _ _ _ _ hm HP3.out)
 replace HM := Lib.hid h
 clear h hm
 go_wp2_with fail
 refine NC.out.mono ?_
 rintro e w5 ⟨rfl, R6, hp, hf⟩
 have HP4 := Lib.hid hp
 have HF4 := Lib.hid (HF3.out.trans hf)
 have HXZ4 := Lib.hid (HXZ3.out.keep hf)
 have HXX4 := Lib.hid (HXX3.out.keep hf)
 clear HP3 HF3 HXZ3 HXX3 hp hf NC 
 go_wp2_with fail
 go_loopg [7, 8] N (fun k s7 s8 wr => ∃ (xx : List UInt8) (left : Int) (sk : PS) (Rk : Nat → Prop), s7 = .int .i64 left ∧ chainR T 4 sub ln k left sk = some (r, s') ∧ Par wr P src T Rk sk ∧ Fr R w Rk wr ∧ Loc wr Rk X [.int .i64 9, .int .i64 ln, .int .i64 0, .string (ofL xx), .slice none 0 0] ∧ Loc wr Rk Z [.string { data := #[42] }, .string { data := #[47] }, .string { data := #[37] }])
 case atStart => exact ⟨[], x0, _, _, rfl, HM.out, HP4.out, HF4.out, HXX4.out, HXZ4.out⟩
 case round =>
  obtain ⟨xx, left, sk, Rk, rfl, hm, hp, hf, hx, hz⟩ := hrel
  clear HP4 HF4 HXZ4 HXX4 HM
  cases gk with
  | zero =>
   have h0 : (none : Option (Int × PS)) = some (r, s') := hm
   cases h0
  | succ k =>
   unfold chainR at hm
   have HP0 := Lib.hid hp
   have HF0 := Lib.hid hf
   have HXX0 := Lib.hid hx
   have HXZ0 := Lib.hid hz
   have HM := Lib.hid hm
   clear hp hf hx hz hm
   obtain ⟨b, hb, h⟩ := ask_out HM.out
   have IC := Lib.hid (is_row HP0.out (n := 3) [{ data := #[42] }, { data := #[47] }, { data := #[37] }] rfl (by omega) HXZ0.out hb)
   replace HM := Lib.hid h
   clear h hb
   cases b with
   | true =>
    have h := HM.out
    rw [if_pos rfl] at h
    replace HM := Lib.hid h
    clear h
    go_wp2_with fail
    refine IC.out.mono ?_
    rintro e w7 ⟨rfl, k1⟩
    have HP1 := Lib.hid (HP0.out.keep k1)
    have HF1 := Lib.hid (HF0.out.keeps k1)
    have HXZ1 := Lib.hid (HXZ0.out.keeps k1)
    have HXX1 := Lib.hid (HXX0.out.keeps k1)
    clear HP0 HF0 HXZ0 HXX0 IC k1 
    have F1 : ∀ (tk : Tok) w, Sem.run Tryz.prog (Instr.field 77 (.agg #[.int .i64 (tk.k : Int), .string (ofL tk.x), .int .i64 (tk.p : Int)]) 1) w = .ok (.string (ofL tk.x)) w := fun tk w => tok_field1 _ _ _ w
    obtain ⟨tk, ht, h⟩ := ask_out HM.out
    have NC := Lib.hid (now_at HP1.out ht)
    replace HM := Lib.hid h
    clear h ht
    go_wp2_with fail
    refine NC.out.mono ?_
    rintro e w8 ⟨rfl, k1⟩
    have HP2 := Lib.hid (HP1.out.keep k1)
    have HF2 := Lib.hid (HF1.out.keeps k1)
    have HXZ2 := Lib.hid (HXZ1.out.keeps k1)
    have HXX2 := Lib.hid (HXX1.out.keeps k1)
    clear HP1 HF1 HXZ1 HXX1 NC k1 
    have zX3 := HXX2.out.cells 3 _ rfl
    have gX3 := HXX2.out.fz 3
    go_upto_region 18 with fail
    clear zX3 gX3 F1
    obtain ⟨w9, hw⟩ : ∃ w9, w9 = w8.setCell ⟨X, 3, none⟩ (.string (ofL tk.x)) := ⟨_, rfl⟩
    have HP3 := Lib.hid (HP2.out.local HXX2.out.out (Nat.lt_of_lt_of_le HLO.out HWX.out) 3 (.string (ofL tk.x)))
    have HF3 := Lib.hid (HF2.out.local HWX.out 3 (.string (ofL tk.x)))
    have HXX3 : Hid (Loc w9 Rk X [.int .i64 9, .int .i64 ln, .int .i64 0, .string (ofL tk.x), .slice none 0 0]) := Lib.hid (by rw [hw]; exact HXX2.out.set 3 (.string (ofL tk.x)) (by simp))
    rw [← hw] at HP3 HF3 ⊢
    have HXZ3 : Hid (Loc w9 Rk Z [.string { data := #[42] }, .string { data := #[47] }, .string { data := #[37] }]) := Lib.hid (by rw [hw]; exact HXZ2.out.keepsR (S := fun b => b = X) ((Keeps.refl (fun b => b = X) w8).setCell (p := ⟨X, 3, none⟩) (fun _ => rfl) _) HNZX.out)
    clear HP2 HF2 HXZ2 HXX2 hw
    obtain ⟨s10, e1, h⟩ := mod_out HM.out
    have NC := Lib.hid (next_at HP3.out e1)
    replace HM := Lib.hid h
    clear h e1
    go_wp2_with fail
    refine NC.out.mono ?_
    rintro e w11 ⟨rfl, R12, hp, hf⟩
    have HP4 := Lib.hid hp
    have HF4 := Lib.hid (HF3.out.trans hf)
    have HXZ4 := Lib.hid (HXZ3.out.keep hf)
    have HXX4 := Lib.hid (HXX3.out.keep hf)
    clear HP3 HF3 HXZ3 HXX3 hp hf NC 
    obtain ⟨y, s13, hm, h⟩ := bind_out HM.out
    have NC := Lib.hid (SUB _ _ _ _ _ hm HP4.out)
    replace HM := Lib.hid h
    clear h hm
    go_wp2_with fail
    refine NC.out.mono ?_
    rintro e w14 ⟨rfl, R15, hp, hf⟩
    have HP5 := Lib.hid hp
    have HF5 := Lib.hid (HF4.out.trans hf)
    have HXZ5 := Lib.hid (HXZ4.out.keep hf)
    have HXX5 := Lib.hid (HXX4.out.keep hf)
    clear HP4 HF4 HXZ4 HXX4 hp hf NC 
    obtain ⟨x1, s16, hm, h⟩ := bind_out HM.out
    have NC := Lib.hid ((nodeC P src T).two HP5.out (9) (ln) (0) (tk.x) left y hm)
    replace HM := Lib.hid h
    clear h hm
    have zX0 := HXX5.out.cells 0 _ rfl
    have zX1 := HXX5.out.cells 1 _ rfl
    have zX2 := HXX5.out.cells 2 _ rfl
    have zX3 := HXX5.out.cells 3 _ rfl
    have zX4 := HXX5.out.cells 4 _ rfl
    go_wp2_with fail
    refine NC.out.mono ?_
    rintro e w17 ⟨rfl, R18, hp, hf⟩
    have HP6 := Lib.hid hp
    have HF6 := Lib.hid (HF5.out.trans hf)
    have HXZ6 := Lib.hid (HXZ5.out.keep hf)
    have HXX6 := Lib.hid (HXX5.out.keep hf)
    clear HP5 HF5 HXZ5 HXX5 hp hf NC zX0 zX1 zX2 zX3 zX4
    have h := HM.out
    rw [if_neg (by decide)] at h
    replace HM := Lib.hid h
    clear h
    go_wp2_with fail
    go_roundg k
    case measure => omega
    case rel => exact ⟨tk.x, x1, _, _, rfl, HM.out, HP6.out, HF6.out, HXX6.out, HXZ6.out⟩
   | false =>
    have h := HM.out
    rw [if_neg (by decide)] at h
    replace HM := Lib.hid h
    clear h
    go_wp2_with fail
    refine IC.out.mono ?_
    rintro e w19 ⟨rfl, k1⟩
    have HP1 := Lib.hid (HP0.out.keep k1)
    have HF1 := Lib.hid (HF0.out.keeps k1)
    have HXZ1 := Lib.hid (HXZ0.out.keeps k1)
    have HXX1 := Lib.hid (HXX0.out.keeps k1)
    clear HP0 HF0 HXZ0 HXX0 IC k1 
    obtain ⟨q1, q2⟩ := pure_end HM.out
    subst q1
    subst q2
    go_wp2_with fail
    go_ret
    exact ⟨rfl, _, HP1.out, HF1.out⟩
set_option maxRecDepth 100000 in
set_option maxHeartbeats 16000000 in
theorem chain5_any {P : Nat} {src : ByteArray} {T : List Tok} {fac : PM Int} (FAC : ExC P src T 150 fac) : ChC P src T 5 fac := by
 intro s r s' R w h hp
 have HP0 := Lib.hid hp
 have HF0 := Lib.hid (Fr.refl R w)
 have HLO := Lib.hid hp.lo
 have HM := Lib.hid h
 clear h hp
 go_enter Tryz.func138, Tryz.ntmps138
 have NC := Lib.hid (FAC _ _ _ _ _ HM.out HP0.out)
 go_wp2_with fail
 refine NC.out.mono ?_
 rintro e w1 ⟨rfl, R2, hp, hf⟩
 have HP1 := Lib.hid hp
 have HF1 := Lib.hid (HF0.out.trans hf)
 clear HP0 HF0 hp hf NC 
 go_wp2_with fail
 go_ret
 exact ⟨rfl, _, HP1.out, HF1.out⟩
set_option maxRecDepth 100000 in
set_option maxHeartbeats 16000000 in
theorem expr_any {P : Nat} {src : ByteArray} {T : List Tok} {ex : PM Int} (CH : ChC P src T 0 ex) : ExC P src T 119 ex := by
 intro s r s' R w h hp
 have HP0 := Lib.hid hp
 have HF0 := Lib.hid (Fr.refl R w)
 have HLO := Lib.hid hp.lo
 have HM := Lib.hid h
 clear h hp
 go_enter Tryz.func119, Tryz.ntmps119
 have NC := Lib.hid (CH _ _ _ _ _ HM.out HP0.out)
 go_wp2_with fail
 refine NC.out.mono ?_
 rintro e w1 ⟨rfl, R2, hp, hf⟩
 have HP1 := Lib.hid hp
 have HF1 := Lib.hid (HF0.out.trans hf)
 clear HP0 HF0 hp hf NC 
 go_wp2_with fail
 go_ret
 exact ⟨rfl, _, HP1.out, HF1.out⟩
/-- What the levels tell, so deep at most. -/
theorem ex_any {P : Nat} {src : ByteArray} {T : List Tok} (hsz : src.size ≤ 1000) (N : Nat) : (ExC P src T 150 (exM src.data.toList T N 5) ∧ ∀ lv, lv ≤ 5 → ChC P src T (lv : Nat) (exM src.data.toList T N lv)) := by
 induction N with
 | zero => exact ⟨fun s a s1 R w h => (by cases h), fun lv _ s a s1 R w h => (by cases h)⟩
 | succ n ih =>
  have fac : ExC P src T 150 (exM src.data.toList T (n + 1) 5) := factor_any hsz (expr_any (ih.2 0 (by omega))) ih.1
  refine ⟨fac, fun lv hlv => ?_⟩
  match lv, hlv with
  | 0, _ => exact chain0_any hsz (ih.2 1 (by omega))
  | 1, _ => exact chain1_any hsz (ih.2 2 (by omega))
  | 2, _ => exact chain2_any hsz (ih.2 3 (by omega))
  | 3, _ => exact chain3_any hsz (ih.2 4 (by omega))
  | 4, _ => exact chain4_any hsz (ih.2 5 (by omega))
  | 5, _ => exact chain5_any fac
end Go.Proofs.YtbhpnioggpgbhaaGreatDoor
