/-
 Layer 2: function. Written by an AI agent.
-/
import Derived.Deep.Light
import Derived.Test.YtbhpnioggpgbhaaGreatDoorMcaq
namespace Go.Proofs.YtbhpnioggpgbhaaGreatDoor
open Go Go.RowKit Go.Shelf
set_option linter.unusedVariables false
set_option linter.unusedSimpArgs false
def PmV (p : List UInt8 × Int) : List Value := [.string (ofL p.1), .int .i64 p.2]
def flatP (l : List (List UInt8 × Int)) : List Value := l.flatMap PmV
theorem flatP_more (l : List (List UInt8 × Int)) (p : List UInt8 × Int) : flatP (l ++ [p]) = flatP l ++ PmV p := by simp [flatP]
theorem PmV_one (p : List UInt8 × Int) : ∀ u ∈ PmV p, u.oneCell' = true := by
 intro u hu
 simp only [PmV, List.mem_cons, List.not_mem_nil, or_false] at hu
 rcases hu with rfl | rfl <;> rfl
theorem info_param : (Tryz.prog.info? 69).map (fun i => (i.zero, i.size, i.bytes)) = some (some (.agg #[.string ⟨#[]⟩, .int .i64 0]), 2, 24) := by kernel_rfl
theorem newsG {w : World} (vs : List Value) (t : TypeId) : ∀ j u, vs[j]? = some u → (w.alloc (.cells vs.toArray t)).cell? ((⟨w.heap.size, 0, none⟩ : Addr).add j) = some u := by
 intro j u h
 have e : (⟨w.heap.size, 0, none⟩ : Addr).add j = ⟨w.heap.size, j, none⟩ := by unfold Addr.add; split <;> simp_all
 rw [e, World.cell?_alloc_mark]
 simpa using h
theorem own_keepG {w w' : World} {R R' : Nat → Prop} {e : TypeId} {size : Nat} {v : Value} {n : Nat} {xs : List Value} (h : w.ownsRow 0 e size v n xs) (f : Fr R w R' w') {B : Nat} (hb : ∀ g, v.ownBlock = some g → ¬ R g ∧ B ≤ g) :
  w'.ownsRow 0 e size v n xs ∧ ∀ g, v.ownBlock = some g → ¬ R' g ∧ B ≤ g :=
 ⟨ownsRow_keep h (fun g hg => f.1.block g (own_ltk h hg) (hb g hg).1), fun g hg => ⟨fun hr => (hb g hg).1 (f.2 g (own_ltk h hg) hr), (hb g hg).2⟩⟩
theorem own_len {w : World} {e : TypeId} {k : Nat} {A : Option Addr} {n m c : Nat} {xs : List Value} (h : n = m) (ho : w.ownsRow 0 e k (.slice A n c) n xs) : w.ownsRow 0 e k (.slice A m c) m xs := h ▸ ho
theorem own_blk (A : Option Addr) (n m c : Nat) : (Value.slice A n c).ownBlock = (Value.slice A m c).ownBlock := by cases A <;> rfl
/-- The contract of function. -/
def FnC (P : Nat) (src : ByteArray) (T : List Tok) (m : PM Fnc) : Prop :=
 ∀ (s : PS) (a : Fnc) (s1 : PS) (R : Nat → Prop) (w : World), m s = some (a, s1) → Par w P src T R s → Calls Tryz.prog 35 #[.pointer (some ⟨P, 0, none⟩)] w fun e w' => ∃ A c, e = .returned (.agg #[.string (ofL a.s), .int .i64 a.ln, .slice A a.ps.length c, .int .i64 a.ret, .int .i64 a.body]) ∧ (w'.ownsRow 0 69 2 (.slice A a.ps.length c) a.ps.length (flatP a.ps) ∧ ∃ R', Par w' P src T R' s1 ∧ Fr R w R' w' ∧ ∀ g, (Value.slice A a.ps.length c).ownBlock = some g → ¬ R' g ∧ w.heap.size ≤ g)
set_option maxRecDepth 100000 in
set_option maxHeartbeats 16000000 in
theorem function_any {P : Nat} {src : ByteArray} {T : List Tok} {N : Nat} (hsz : src.size ≤ 1000) (hN : N ≤ 100000) (BL : ExC P src T 66 (blockM src.data.toList T N (stM src.data.toList T N N))) : FnC P src T (functionM src.data.toList T N) := by
 intro s fa s' R w h hp
 obtain ⟨ip, hip, hp0, hp1, hp2⟩ := info_parts info_param
 have HP0 := Lib.hid hp
 have HF0 := Lib.hid (Fr.refl R w)
 have HLO := Lib.hid hp.lo
 have HM := Lib.hid h
 clear h hp
 go_enter Tryz.func35, Tryz.ntmps35
 go_upto_region 1 with fail
 have ka := Keeps.one w (.cells #[.string { data := #[] }, .int .i64 0, .slice none 0 0, .int .i64 0, .int .i64 0] 49)
 obtain ⟨C, hC⟩ : ∃ C, C = w.heap.size := ⟨_, rfl⟩
 obtain ⟨w1, hw⟩ : ∃ w1, w1 = w.alloc (.cells #[.string { data := #[] }, .int .i64 0, .slice none 0 0, .int .i64 0, .int .i64 0] 49) := ⟨_, rfl⟩
 have HXC1 : Hid (Loc w1 R C [.string (ofL []), .int .i64 0, .slice none 0 0, .int .i64 0, .int .i64 0]) := Lib.hid (by rw [hw, hC]; exact Loc.new HP0.out.new [.string (ofL []), .int .i64 0, .slice none 0 0, .int .i64 0, .int .i64 0] 49)
 have HWC : Hid (w.heap.size ≤ C) := Lib.hid (by rw [hC]; exact HF0.out.1.size)
 rw [← hC]
 rw [← hw] at ka ⊢
 have HP1 := Lib.hid (HP0.out.keep ka)
 have HF1 := Lib.hid (HF0.out.keeps ka)
 clear HP0 HF0 ka hw hC
 obtain ⟨ln, hln, h⟩ := ask_out HM.out
 have LC := Lib.hid (line_at hsz HP1.out hln)
 replace HM := Lib.hid h
 clear h hln
 go_wp2_with fail
 refine LC.out.mono ?_
 rintro e w2 ⟨rfl, k1⟩
 have HP2 := Lib.hid (HP1.out.keep k1)
 have HF2 := Lib.hid (HF1.out.keeps k1)
 have HXC2 := Lib.hid (HXC1.out.keeps k1)
 clear HP1 HF1 HXC1 LC k1 
 go_upto_region 2 with fail
 have ka := Keeps.one w2 (.cells #[.string { data := #[] }, .int .i64 ln, .slice none 0 0, .int .i64 0, .int .i64 0] 49)
 obtain ⟨F, hF⟩ : ∃ F, F = w2.heap.size := ⟨_, rfl⟩
 obtain ⟨w3, hw⟩ : ∃ w3, w3 = w2.alloc (.cells #[.string { data := #[] }, .int .i64 ln, .slice none 0 0, .int .i64 0, .int .i64 0] 49) := ⟨_, rfl⟩
 have HXF3 : Hid (Loc w3 R F [.string (ofL []), .int .i64 ln, .slice none 0 0, .int .i64 0, .int .i64 0]) := Lib.hid (by rw [hw, hF]; exact Loc.new HP2.out.new [.string (ofL []), .int .i64 ln, .slice none 0 0, .int .i64 0, .int .i64 0] 49)
 have HWF : Hid (w.heap.size ≤ F) := Lib.hid (by rw [hF]; exact HF2.out.1.size)
 rw [← hF]
 rw [← hw] at ka ⊢
 have HP3 := Lib.hid (HP2.out.keep ka)
 have HF3 := Lib.hid (HF2.out.keeps ka)
 have HXC3 := Lib.hid (HXC2.out.keeps ka)
 have HNFC : Hid (¬ F = C) := Lib.hid (fun e => by have := HXC2.out.lt; omega)
 have HNCF : Hid (¬ C = F) := Lib.hid (fun e => by have := HXC2.out.lt; omega)
 clear HP2 HF2 HXC2 ka hw hF
 obtain ⟨s4, e1, h⟩ := mod_out HM.out
 have NC := Lib.hid (want_at HP3.out ({ data := #[102, 110] }) e1)
 replace HM := Lib.hid h
 clear h e1
 go_wp2_with fail
 refine NC.out.mono ?_
 rintro e w5 ⟨rfl, R6, hp, hf⟩
 have HP4 := Lib.hid hp
 have HF4 := Lib.hid (HF3.out.trans hf)
 have HXC4 := Lib.hid (HXC3.out.keep hf)
 have HXF4 := Lib.hid (HXF3.out.keep hf)
 clear HP3 HF3 HXC3 HXF3 hp hf NC 
 obtain ⟨x, ex, h⟩ := ask_out HM.out
 obtain ⟨s7, e1, h⟩ := mod_out h
 have NC := Lib.hid (name_at HP4.out e1 ex)
 replace HM := Lib.hid h
 clear h e1 ex
 go_wp2_with fail
 refine NC.out.mono ?_
 rintro e w8 ⟨rfl, R9, hp, hf⟩
 have HP5 := Lib.hid hp
 have HF5 := Lib.hid (HF4.out.trans hf)
 have HXC5 := Lib.hid (HXC4.out.keep hf)
 have HXF5 := Lib.hid (HXF4.out.keep hf)
 clear HP4 HF4 HXC4 HXF4 hp hf NC 
 have zF0 := HXF5.out.cells 0 _ rfl
 have gF0 := HXF5.out.fz 0
 go_upto_region 4 with fail
 clear zF0 gF0
 obtain ⟨w10, hw⟩ : ∃ w10, w10 = w8.setCell ⟨F, 0, none⟩ (.string (ofL x)) := ⟨_, rfl⟩
 have HP6 := Lib.hid (HP5.out.local HXF5.out.out (Nat.lt_of_lt_of_le HLO.out HWF.out) 0 (.string (ofL x)))
 have HF6 := Lib.hid (HF5.out.local HWF.out 0 (.string (ofL x)))
 have HXF6 : Hid (Loc w10 R9 F [.string (ofL x), .int .i64 ln, .slice none 0 0, .int .i64 0, .int .i64 0]) := Lib.hid (by rw [hw]; exact HXF5.out.set 0 (.string (ofL x)) (by simp))
 rw [← hw] at HP6 HF6  ⊢
 have HXC6 : Hid (Loc w10 R9 C [.string (ofL []), .int .i64 0, .slice none 0 0, .int .i64 0, .int .i64 0]) := Lib.hid (by rw [hw]; exact HXC5.out.keepsR (S := fun b => b = F) ((Keeps.refl (fun b => b = F) w8).setCell (p := ⟨F, 0, none⟩) (fun _ => rfl) _) HNCF.out)
 clear HP5 HF5 HXC5 HXF5 hw
 obtain ⟨s11, e1, h⟩ := mod_out HM.out
 have NC := Lib.hid (want_at HP6.out ({ data := #[40] }) e1)
 replace HM := Lib.hid h
 clear h e1
 go_wp2_with fail
 refine NC.out.mono ?_
 rintro e w12 ⟨rfl, R13, hp, hf⟩
 have HP7 := Lib.hid hp
 have HF7 := Lib.hid (HF6.out.trans hf)
 have HXC7 := Lib.hid (HXC6.out.keep hf)
 have HXF7 := Lib.hid (HXF6.out.keep hf)
 clear HP6 HF6 HXC6 HXF6 hp hf NC 
 obtain ⟨L, sL, hm, h⟩ := bind_out HM.out
 have HA := Lib.hid hm
 replace HM := Lib.hid h
 clear h hm
 unfold paramsM at HA
 have HB7 : Hid (w12.ownsRow 0 69 2 (.slice none 0 0) 0 (flatP []) ∧ ∀ g, (Value.slice none 0 0).ownBlock = some g → ¬ R13 g ∧ w.heap.size ≤ g) := Lib.hid ⟨World.ownsRow_nil _ _ _ _, fun g hg => by simp [Value.ownBlock] at hg⟩
 have HGF : Hid (∀ g, (Value.slice none 0 0).ownBlock = some g → ¬ F = g) := Lib.hid (fun g hg => by simp [Value.ownBlock] at hg)
 have HGC : Hid (∀ g, (Value.slice none 0 0).ownBlock = some g → ¬ C = g) := Lib.hid (fun g hg => by simp [Value.ownBlock] at hg)
 obtain ⟨b, hb, h⟩ := ask_out HA.out
 have IC := Lib.hid (is_at1 HP7.out ({ data := #[41] }) hb)
 replace HA := Lib.hid h
 clear h hb
 cases b with
 | true =>
  have h := HA.out
  rw [if_pos rfl] at h
  replace HA := Lib.hid h
  clear h
  go_wp2_with fail
  refine IC.out.mono ?_
  rintro e w14 ⟨rfl, k1⟩
  have HP8 := Lib.hid (HP7.out.keep k1)
  have HF8 := Lib.hid (HF7.out.keeps k1)
  have HXC8 := Lib.hid (HXC7.out.keeps k1)
  have HXF8 := Lib.hid (HXF7.out.keeps k1)
  have HB8 := Lib.hid (own_keepG HB7.out.1 ((Fr.refl R13 w12).keeps k1) HB7.out.2)
  clear HP7 HF7 HXC7 HXF7 HB7 IC k1 
  obtain ⟨q1, q2⟩ := pure_end HA.out
  subst q1
  subst q2
  clear HA
  obtain ⟨s15, e1, h⟩ := mod_out HM.out
  have NC := Lib.hid (want_at HP8.out ({ data := #[41] }) e1)
  replace HM := Lib.hid h
  clear h e1
  go_wp2_with fail
  refine NC.out.mono ?_
  rintro e w16 ⟨rfl, R17, hp, hf⟩
  have HP9 := Lib.hid hp
  have HF9 := Lib.hid (HF8.out.trans hf)
  have HXC9 := Lib.hid (HXC8.out.keep hf)
  have HXF9 := Lib.hid (HXF8.out.keep hf)
  have HB9 := Lib.hid (own_keepG HB8.out.1 hf HB8.out.2)
  clear HP8 HF8 HXC8 HXF8 HB8 hp hf NC 
  obtain ⟨rt, sR, hm, h⟩ := bind_out HM.out
  have HA := Lib.hid hm
  replace HM := Lib.hid h
  clear h hm
  unfold retM at HA
  obtain ⟨b, hb, h⟩ := ask_out HA.out
  have IC := Lib.hid (is_at1 HP9.out ({ data := #[123] }) hb)
  replace HA := Lib.hid h
  clear h hb
  cases b with
  | true =>
   have h := HA.out
   rw [if_pos rfl] at h
   replace HA := Lib.hid h
   clear h
   go_wp2_with fail
   refine IC.out.mono ?_
   rintro e w18 ⟨rfl, k1⟩
   have HP10 := Lib.hid (HP9.out.keep k1)
   have HF10 := Lib.hid (HF9.out.keeps k1)
   have HXC10 := Lib.hid (HXC9.out.keeps k1)
   have HXF10 := Lib.hid (HXF9.out.keeps k1)
   have HB10 := Lib.hid (own_keepG HB9.out.1 ((Fr.refl R17 w16).keeps k1) HB9.out.2)
   clear HP9 HF9 HXC9 HXF9 HB9 IC k1 
   obtain ⟨q1, q2⟩ := pure_end HA.out
   subst q1
   subst q2
   clear HA
   obtain ⟨y, s19, hm, h⟩ := bind_out HM.out
   have NC := Lib.hid (BL _ _ _ _ _ hm HP10.out)
   replace HM := Lib.hid h
   clear h hm
   go_wp2_with fail
   refine NC.out.mono ?_
   rintro e w20 ⟨rfl, R21, hp, hf⟩
   have HP11 := Lib.hid hp
   have HF11 := Lib.hid (HF10.out.trans hf)
   have HXC11 := Lib.hid (HXC10.out.keep hf)
   have HXF11 := Lib.hid (HXF10.out.keep hf)
   have HB11 := Lib.hid (own_keepG HB10.out.1 hf HB10.out.2)
   clear HP10 HF10 HXC10 HXF10 HB10 hp hf NC 
   have zF4 := HXF11.out.cells 4 _ rfl
   have gF4 := HXF11.out.fz 4
   go_upto_region 14 with fail
   clear zF4 gF4
   have hrow := ownsRow_keep HB11.out.1 (fun g hg => ((Keeps.refl (fun b => b = F) w20).setCell (p := ⟨F, 4, none⟩) (fun _ => rfl) (.int .i64 y)).block g (own_ltk HB11.out.1 hg) (fun e => HGF.out g hg (show g = F from e).symm))
   have HB12 := Lib.hid (And.intro hrow HB11.out.2)
   clear hrow HB11
   obtain ⟨w22, hw⟩ : ∃ w22, w22 = w20.setCell ⟨F, 4, none⟩ (.int .i64 y) := ⟨_, rfl⟩
   have HP12 := Lib.hid (HP11.out.local HXF11.out.out (Nat.lt_of_lt_of_le HLO.out HWF.out) 4 (.int .i64 y))
   have HF12 := Lib.hid (HF11.out.local HWF.out 4 (.int .i64 y))
   have HXF12 : Hid (Loc w22 R21 F [.string (ofL x), .int .i64 ln, .slice none 0 0, .int .i64 0, .int .i64 y]) := Lib.hid (by rw [hw]; exact HXF11.out.set 4 (.int .i64 y) (by simp))
   rw [← hw] at HP12 HF12 HB12 ⊢
   have HXC12 : Hid (Loc w22 R21 C [.string (ofL []), .int .i64 0, .slice none 0 0, .int .i64 0, .int .i64 0]) := Lib.hid (by rw [hw]; exact HXC11.out.keepsR (S := fun b => b = F) ((Keeps.refl (fun b => b = F) w20).setCell (p := ⟨F, 4, none⟩) (fun _ => rfl) _) HNCF.out)
   clear HP11 HF11 HXC11 HXF11 hw
   obtain ⟨q1, q2⟩ := pure_end HM.out
   subst q1
   subst q2
   have zF0 := HXF12.out.cells 0 _ rfl
   have zF1 := HXF12.out.cells 1 _ rfl
   have zF2 := HXF12.out.cells 2 _ rfl
   have zF3 := HXF12.out.cells 3 _ rfl
   have zF4 := HXF12.out.cells 4 _ rfl
   have zC0 := HXC12.out.cells 0 _ rfl
   have zC1 := HXC12.out.cells 1 _ rfl
   have zC2 := HXC12.out.cells 2 _ rfl
   have zC3 := HXC12.out.cells 3 _ rfl
   have zC4 := HXC12.out.cells 4 _ rfl
   have gC0 := HXC12.out.fz 0
   have gC1 := HXC12.out.fz 1
   have gC2 := HXC12.out.fz 2
   have gC3 := HXC12.out.fz 3
   have gC4 := HXC12.out.fz 4
   go_wp2_with fail
   (try simp only [Exit.inBlock, Exit.then])
   refine bodyPost_ret (v := .agg #[.string (ofL x), .int .i64 ln, .slice none 0 0, .int .i64 0, .int .i64 y]) ?_ rfl ?_
   ·rw [results_cell1 rfl]
    go_simp
   clear zF0 zF1 zF2 zF3 zF4 zC0 zC1 zC2 zC3 zC4 gC0 gC1 gC2 gC3 gC4
   have hnl : 0 = ([] : List (List UInt8 × Int)).length := rfl
   have kz := fun j u => (Keeps.refl (fun b => b = C) w22).setCell (p := ⟨C, j, none⟩) (fun _ => rfl) u
   have ky := fun (w1 : World) (k1 : Keeps (fun b => b = C) w22 w1) j u => k1.setCell (p := ⟨C, j, none⟩) (fun _ => rfl) u
   have kk := ky _ (ky _ (ky _ (ky _ (ky _ (Keeps.refl (fun b => b = C) w22) 0 (.string (ofL x))) 1 (.int .i64 ln)) 2 (.slice none 0 0)) 3 (.int .i64 0)) 4 (.int .i64 y)
   have hpl := HP12.out.keepR kk (fun b hr e => HXC12.out.out (e ▸ hr)) (fun b (e : b = C) => Nat.le_of_lt (Nat.lt_of_lt_of_le HLO.out (e.symm ▸ HWC.out)))
   have hfl : Fr R w R21 _ := ⟨HF12.out.1.trans (T := fun b => b = C) kk (fun x hx (e : x = C) => absurd (show w.heap.size ≤ x from e.symm ▸ HWC.out) (Nat.not_le.2 hx)), HF12.out.2⟩
   have hol := ownsRow_keep HB12.out.1 (fun g hg => kk.block g (own_ltk HB12.out.1 hg) (fun e => HGC.out g hg (show g = C from e).symm))
   exact ⟨none, 0, by rw [hnl], own_len hnl hol, _, hpl, hfl, fun g hg => HB12.out.2 g ((own_blk _ _ _ _).trans hg)⟩
  | false =>
   have h := HA.out
   rw [if_neg (by decide)] at h
   replace HA := Lib.hid h
   clear h
   go_wp2_with fail
   refine IC.out.mono ?_
   rintro e w23 ⟨rfl, k1⟩
   have HP10 := Lib.hid (HP9.out.keep k1)
   have HF10 := Lib.hid (HF9.out.keeps k1)
   have HXC10 := Lib.hid (HXC9.out.keeps k1)
   have HXF10 := Lib.hid (HXF9.out.keeps k1)
   have HB10 := Lib.hid (own_keepG HB9.out.1 ((Fr.refl R17 w16).keeps k1) HB9.out.2)
   clear HP9 HF9 HXC9 HXF9 HB9 IC k1 
   have NC := Lib.hid (kind_any _ _ _ _ _ HA.out HP10.out)
   clear HA
   go_wp2_with fail
   refine NC.out.mono ?_
   rintro e w24 ⟨rfl, R25, hp, hf⟩
   have HP11 := Lib.hid hp
   have HF11 := Lib.hid (HF10.out.trans hf)
   have HXC11 := Lib.hid (HXC10.out.keep hf)
   have HXF11 := Lib.hid (HXF10.out.keep hf)
   have HB11 := Lib.hid (own_keepG HB10.out.1 hf HB10.out.2)
   clear HP10 HF10 HXC10 HXF10 HB10 hp hf NC 
   have zF3 := HXF11.out.cells 3 _ rfl
   have gF3 := HXF11.out.fz 3
   go_upto_region 13 with fail
   clear zF3 gF3
   have hrow := ownsRow_keep HB11.out.1 (fun g hg => ((Keeps.refl (fun b => b = F) w24).setCell (p := ⟨F, 3, none⟩) (fun _ => rfl) (.int .i64 rt)).block g (own_ltk HB11.out.1 hg) (fun e => HGF.out g hg (show g = F from e).symm))
   have HB12 := Lib.hid (And.intro hrow HB11.out.2)
   clear hrow HB11
   obtain ⟨w26, hw⟩ : ∃ w26, w26 = w24.setCell ⟨F, 3, none⟩ (.int .i64 rt) := ⟨_, rfl⟩
   have HP12 := Lib.hid (HP11.out.local HXF11.out.out (Nat.lt_of_lt_of_le HLO.out HWF.out) 3 (.int .i64 rt))
   have HF12 := Lib.hid (HF11.out.local HWF.out 3 (.int .i64 rt))
   have HXF12 : Hid (Loc w26 R25 F [.string (ofL x), .int .i64 ln, .slice none 0 0, .int .i64 rt, .int .i64 0]) := Lib.hid (by rw [hw]; exact HXF11.out.set 3 (.int .i64 rt) (by simp))
   rw [← hw] at HP12 HF12 HB12 ⊢
   have HXC12 : Hid (Loc w26 R25 C [.string (ofL []), .int .i64 0, .slice none 0 0, .int .i64 0, .int .i64 0]) := Lib.hid (by rw [hw]; exact HXC11.out.keepsR (S := fun b => b = F) ((Keeps.refl (fun b => b = F) w24).setCell (p := ⟨F, 3, none⟩) (fun _ => rfl) _) HNCF.out)
   clear HP11 HF11 HXC11 HXF11 hw
   obtain ⟨y, s27, hm, h⟩ := bind_out HM.out
   have NC := Lib.hid (BL _ _ _ _ _ hm HP12.out)
   replace HM := Lib.hid h
   clear h hm
   go_wp2_with fail
   refine NC.out.mono ?_
   rintro e w28 ⟨rfl, R29, hp, hf⟩
   have HP13 := Lib.hid hp
   have HF13 := Lib.hid (HF12.out.trans hf)
   have HXC13 := Lib.hid (HXC12.out.keep hf)
   have HXF13 := Lib.hid (HXF12.out.keep hf)
   have HB13 := Lib.hid (own_keepG HB12.out.1 hf HB12.out.2)
   clear HP12 HF12 HXC12 HXF12 HB12 hp hf NC 
   have zF4 := HXF13.out.cells 4 _ rfl
   have gF4 := HXF13.out.fz 4
   go_upto_region 14 with fail
   clear zF4 gF4
   have hrow := ownsRow_keep HB13.out.1 (fun g hg => ((Keeps.refl (fun b => b = F) w28).setCell (p := ⟨F, 4, none⟩) (fun _ => rfl) (.int .i64 y)).block g (own_ltk HB13.out.1 hg) (fun e => HGF.out g hg (show g = F from e).symm))
   have HB14 := Lib.hid (And.intro hrow HB13.out.2)
   clear hrow HB13
   obtain ⟨w30, hw⟩ : ∃ w30, w30 = w28.setCell ⟨F, 4, none⟩ (.int .i64 y) := ⟨_, rfl⟩
   have HP14 := Lib.hid (HP13.out.local HXF13.out.out (Nat.lt_of_lt_of_le HLO.out HWF.out) 4 (.int .i64 y))
   have HF14 := Lib.hid (HF13.out.local HWF.out 4 (.int .i64 y))
   have HXF14 : Hid (Loc w30 R29 F [.string (ofL x), .int .i64 ln, .slice none 0 0, .int .i64 rt, .int .i64 y]) := Lib.hid (by rw [hw]; exact HXF13.out.set 4 (.int .i64 y) (by simp))
   rw [← hw] at HP14 HF14 HB14 ⊢
   have HXC14 : Hid (Loc w30 R29 C [.string (ofL []), .int .i64 0, .slice none 0 0, .int .i64 0, .int .i64 0]) := Lib.hid (by rw [hw]; exact HXC13.out.keepsR (S := fun b => b = F) ((Keeps.refl (fun b => b = F) w28).setCell (p := ⟨F, 4, none⟩) (fun _ => rfl) _) HNCF.out)
   clear HP13 HF13 HXC13 HXF13 hw
   obtain ⟨q1, q2⟩ := pure_end HM.out
   subst q1
   subst q2
   have zF0 := HXF14.out.cells 0 _ rfl
   have zF1 := HXF14.out.cells 1 _ rfl
   have zF2 := HXF14.out.cells 2 _ rfl
   have zF3 := HXF14.out.cells 3 _ rfl
   have zF4 := HXF14.out.cells 4 _ rfl
   have zC0 := HXC14.out.cells 0 _ rfl
   have zC1 := HXC14.out.cells 1 _ rfl
   have zC2 := HXC14.out.cells 2 _ rfl
   have zC3 := HXC14.out.cells 3 _ rfl
   have zC4 := HXC14.out.cells 4 _ rfl
   have gC0 := HXC14.out.fz 0
   have gC1 := HXC14.out.fz 1
   have gC2 := HXC14.out.fz 2
   have gC3 := HXC14.out.fz 3
   have gC4 := HXC14.out.fz 4
   go_wp2_with fail
   (try simp only [Exit.inBlock, Exit.then])
   refine bodyPost_ret (v := .agg #[.string (ofL x), .int .i64 ln, .slice none 0 0, .int .i64 rt, .int .i64 y]) ?_ rfl ?_
   ·rw [results_cell1 rfl]
    go_simp
   clear zF0 zF1 zF2 zF3 zF4 zC0 zC1 zC2 zC3 zC4 gC0 gC1 gC2 gC3 gC4
   have hnl : 0 = ([] : List (List UInt8 × Int)).length := rfl
   have kz := fun j u => (Keeps.refl (fun b => b = C) w30).setCell (p := ⟨C, j, none⟩) (fun _ => rfl) u
   have ky := fun (w1 : World) (k1 : Keeps (fun b => b = C) w30 w1) j u => k1.setCell (p := ⟨C, j, none⟩) (fun _ => rfl) u
   have kk := ky _ (ky _ (ky _ (ky _ (ky _ (Keeps.refl (fun b => b = C) w30) 0 (.string (ofL x))) 1 (.int .i64 ln)) 2 (.slice none 0 0)) 3 (.int .i64 rt)) 4 (.int .i64 y)
   have hpl := HP14.out.keepR kk (fun b hr e => HXC14.out.out (e ▸ hr)) (fun b (e : b = C) => Nat.le_of_lt (Nat.lt_of_lt_of_le HLO.out (e.symm ▸ HWC.out)))
   have hfl : Fr R w R29 _ := ⟨HF14.out.1.trans (T := fun b => b = C) kk (fun x hx (e : x = C) => absurd (show w.heap.size ≤ x from e.symm ▸ HWC.out) (Nat.not_le.2 hx)), HF14.out.2⟩
   have hol := ownsRow_keep HB14.out.1 (fun g hg => kk.block g (own_ltk HB14.out.1 hg) (fun e => HGC.out g hg (show g = C from e).symm))
   exact ⟨none, 0, by rw [hnl], own_len hnl hol, _, hpl, hfl, fun g hg => HB14.out.2 g ((own_blk _ _ _ _).trans hg)⟩
 | false =>
  have h := HA.out
  rw [if_neg (by decide)] at h
  replace HA := Lib.hid h
  clear h
  go_wp2_with fail
  refine IC.out.mono ?_
  rintro e w31 ⟨rfl, k1⟩
  have HP8 := Lib.hid (HP7.out.keep k1)
  have HF8 := Lib.hid (HF7.out.keeps k1)
  have HXC8 := Lib.hid (HXC7.out.keeps k1)
  have HXF8 := Lib.hid (HXF7.out.keeps k1)
  have HB8 := Lib.hid (own_keepG HB7.out.1 ((Fr.refl R13 w12).keeps k1) HB7.out.2)
  clear HP7 HF7 HXC7 HXF7 HB7 IC k1 
  obtain ⟨p0, s32, hm, h⟩ := bind_out HA.out
  have HPM : Hid (paramM T s11 = some ((p0.1, p0.2), s32)) := Lib.hid hm
  replace HA := Lib.hid h
  clear h hm
  go_upto_region 6 with fail
  go_cut [3] from 28 to 34 (fun s3 wx => ∃ (A : Option Addr) (c : Nat) (Rk : Nat → Prop), s3 = .pointer (some ⟨F, 0, none⟩) ∧ Par wx P src T Rk s32 ∧ Fr R w Rk wx ∧ Loc wx Rk C [.string (ofL []), .int .i64 0, .slice none 0 0, .int .i64 0, .int .i64 0] ∧ Loc wx Rk F [.string (ofL x), .int .i64 ln, .slice A (0 + 1) c, .int .i64 0, .int .i64 0] ∧ (wx.ownsRow 0 69 2 (.slice A (0 + 1) c) (0 + 1) (flatP ([] ++ [p0])) ∧ ∀ g, (Value.slice A (0 + 1) c).ownBlock = some g → ¬ Rk g ∧ w.heap.size ≤ g) ∧ (∀ g, (Value.slice A (0 + 1) c).ownBlock = some g → ¬ F = g) ∧ ∀ g, (Value.slice A (0 + 1) c).ownBlock = some g → ¬ C = g)
  case first =>
   refine wp_region_held_drew (S := fun _ => True) (by kernel_rfl) trivial (fun _ => ?_)
   have k1 : Keeps (fun _ => False) w31 w31.drew := (Keeps.refl (fun _ => False) w31).drew
   generalize w31.drew = w33 at k1 ⊢
   have HP9 := Lib.hid (HP8.out.keep k1)
   have HF9 := Lib.hid (HF8.out.keeps k1)
   have HXC9 := Lib.hid (HXC8.out.keeps k1)
   have HXF9 := Lib.hid (HXF8.out.keeps k1)
   have HB9 := Lib.hid (own_keepG HB8.out.1 ((Fr.refl R13 w31).keeps k1) HB8.out.2)
   clear HP8 HF8 HXC8 HXF8 HB8 k1
   refine wpAnyH_take (i := 0) (v := ?_) rfl (by kernel_rfl) (by kernel_rfl) (by kernel_rfl) (fun _ _ _ h => h) (Or.inl ⟨by rfl, ?_⟩) (by assumption) ?_
   rotate_left
   ·(intro w' hSw; (try dsimp only at hSw); obtain ⟨_⟩ := hSw; go_simp; (try (with_reducible rfl)))
   simp only [Act.put, List.getElem_toArray, List.getElem_cons_succ, List.getElem_cons_zero, List.setIfInBounds_toArray, List.set_cons_succ, List.set_cons_zero]
   refine wpAnyH_take (i := 2) (v := ?_) rfl (by kernel_rfl) (by kernel_rfl) (by kernel_rfl) (fun _ _ _ h => h) (Or.inl ⟨by rfl, ?_⟩) (by assumption) ?_
   rotate_left
   ·(intro w' hSw; (try dsimp only at hSw); obtain ⟨_⟩ := hSw; go_simp; (try (with_reducible rfl)))
   simp only [Act.put, List.getElem_toArray, List.getElem_cons_succ, List.getElem_cons_zero, List.setIfInBounds_toArray, List.set_cons_succ, List.set_cons_zero]
   refine wpAnyH_ready (rs := [1, 3]) (by kernel_rfl) (by simp) ?_
   refine AllReadyH.cons rfl (fun K hK => ?_) ?_
   ·skip
    have zF2 := HXF9.out.cells 2 _ rfl
    go_simp
    refine hK.out _ _ trivial (fun _ => ?_)
    clear hK K
    clear zF2
    refine wpAnyH_ready (rs := [3]) (by kernel_rfl) (by simp) ?_
    refine AllReadyH.cons rfl (fun K hK => ?_) AllReadyH.nil
    go_simp
    (go_at_call 63; refine (param_any _ _ _ _ _ _ HPM.out HP9.out).mono ?_; rintro e w34 ⟨rfl, R35, hp, hf⟩; (try go_simp))
    have HP10 := Lib.hid hp
    have HF10 := Lib.hid (HF9.out.trans hf)
    have HXC10 := Lib.hid (HXC9.out.keep hf)
    have HXF10 := Lib.hid (HXF9.out.keep hf)
    have HB10 := Lib.hid (own_keepG HB9.out.1 hf HB9.out.2)
    clear HP9 HF9 HXC9 HXF9 HB9 hp hf 
    refine hK.out _ _ trivial (fun _ => ?_)
    clear hK K
    refine wpAnyH_ready (rs := [4]) (by kernel_rfl) (by simp) ?_
    refine AllReadyH.cons rfl (fun K hK => ?_) AllReadyH.nil
    go_simp
    refine hK.out _ _ trivial (fun _ => ?_)
    clear hK K
    have ka := Keeps.one w34 (.cells #[.string (ofL p0.1), .int .i64 p0.2] 69)
    obtain ⟨BQ, hBQ⟩ : ∃ BQ, BQ = w34.heap.size := ⟨_, rfl⟩
    obtain ⟨w36, hw⟩ : ∃ w36, w36 = w34.alloc (.cells #[.string (ofL p0.1), .int .i64 p0.2] 69) := ⟨_, rfl⟩
    have HNW : Hid (∀ j u, (PmV p0)[j]? = some u → w36.cell? ((⟨BQ, 0, none⟩ : Addr).add j) = some u) := Lib.hid (by rw [hw, hBQ]; exact newsG (w := w34) (PmV p0) 69)
    rw [← hBQ]
    rw [← hw] at ka ⊢
    clear hBQ hw
    have HP11 := Lib.hid (HP10.out.keep ka)
    have HF11 := Lib.hid (HF10.out.keeps ka)
    have HXC11 := Lib.hid (HXC10.out.keeps ka)
    have HXF11 := Lib.hid (HXF10.out.keeps ka)
    have HB11 := Lib.hid (own_keepG HB10.out.1 ((Fr.refl R35 w34).keeps ka) HB10.out.2)
    clear HP10 HF10 HXC10 HXF10 HB10 ka
    refine wpAnyH_ready (rs := [5]) (by kernel_rfl) (by simp) ?_
    refine AllReadyH.cons rfl (fun K hK => ?_) AllReadyH.nil
    refine step_append_atk (by rfl) (.tmp 29) (.tmp 32) 47 (by rfl) 0 69 ip _ 2 24 Tryz.underlying47 hip hp0 hp1 hp2 (by rfl) (by omega) (.slice none 0 0) (0) (flatP []) (by rfl) HB11.out.1 ⟨BQ, 0, none⟩ 1 1 (PmV p0) (by rfl) (by rfl) HNW.out (PmV_one _) (by omega) (by omega) (Nat.zero_le _) ?_
    intro v5 w37 h5 g5 b5
    obtain ⟨A5, c5, rfl⟩ := own_formk h5
    have hmm := own_more HP11.out HF11.out HLO.out HB11.out.2 (Keeps.refl (fun _ => False) w36) g5 b5
    have HP12 := Lib.hid hmm.1
    have HF12 := Lib.hid hmm.2.1
    have HB12 : Hid (w37.ownsRow 0 69 2 (.slice A5 (0 + 1) c5) (0 + 1) (flatP ([] ++ [p0])) ∧ ∀ g, (Value.slice A5 (0 + 1) c5).ownBlock = some g → ¬ R35 g ∧ w.heap.size ≤ g) := Lib.hid ⟨by rw [flatP_more]; exact h5, hmm.2.2.1⟩
    have HXC12 := Lib.hid (HXC11.out.keepsR hmm.2.2.2 (fun hv => HGC.out _ hv rfl))
    have HHC : Hid (∀ g, (Value.slice A5 (0 + 1) c5).ownBlock = some g → ¬ C = g) := Lib.hid (row_out b5 HXC11.out.lt HGC.out)
    have HXF12 := Lib.hid (HXF11.out.keepsR hmm.2.2.2 (fun hv => HGF.out _ hv rfl))
    have HHF : Hid (∀ g, (Value.slice A5 (0 + 1) c5).ownBlock = some g → ¬ F = g) := Lib.hid (row_out b5 HXF11.out.lt HGF.out)
    clear hmm h5 g5 b5 HP11 HF11 HXC11 HXF11 HB11
    refine hK.out _ _ trivial (fun _ => ?_)
    clear hK K
    simp only [Act.put, List.getElem_toArray, List.getElem_cons_succ, List.getElem_cons_zero, List.setIfInBounds_toArray, List.set_cons_succ, List.set_cons_zero]
    refine wpAnyH_take (i := 6) (v := ?_) rfl (by kernel_rfl) (by kernel_rfl) (by kernel_rfl) (fun _ _ _ h => h) (Or.inl ⟨by rfl, ?_⟩) (by assumption) ?_
    rotate_left
    ·(intro w' hSw; (try dsimp only at hSw); obtain ⟨_⟩ := hSw; go_simp; (try (with_reducible rfl)))
    simp only [Act.put, List.getElem_toArray, List.getElem_cons_succ, List.getElem_cons_zero, List.setIfInBounds_toArray, List.set_cons_succ, List.set_cons_zero]
    refine wpAnyH_ready (rs := [7]) (by kernel_rfl) (by simp) ?_
    refine AllReadyH.cons rfl (fun K hK => ?_) AllReadyH.nil
    have zF2 := HXF12.out.cells 2 _ rfl
    have gF2 := HXF12.out.fz 2
    go_simp
    refine hK.out _ _ trivial (fun _ => ?_)
    clear hK K
    clear zF2 gF2
    have hrow := ownsRow_keep HB12.out.1 (fun g hg => ((Keeps.refl (fun b => b = F) w37).setCell (p := ⟨F, 2, none⟩) (fun _ => rfl) (.slice A5 (0 + 1) c5)).block g (own_ltk HB12.out.1 hg) (fun e => HHF.out g hg (show g = F from e).symm))
    have HB13 := Lib.hid (And.intro hrow HB12.out.2)
    clear hrow HB12
    obtain ⟨w39, hw⟩ : ∃ w39, w39 = w37.setCell ⟨F, 2, none⟩ (.slice A5 (0 + 1) c5) := ⟨_, rfl⟩
    have HP13 := Lib.hid (HP12.out.local HXF12.out.out (Nat.lt_of_lt_of_le HLO.out HWF.out) 2 (.slice A5 (0 + 1) c5))
    have HF13 := Lib.hid (HF12.out.local HWF.out 2 (.slice A5 (0 + 1) c5))
    have HXF13 : Hid (Loc w39 R35 F [.string (ofL x), .int .i64 ln, .slice A5 (0 + 1) c5, .int .i64 0, .int .i64 0]) := Lib.hid (by rw [hw]; exact HXF12.out.set 2 (.slice A5 (0 + 1) c5) (by simp))
    rw [← hw] at HP13 HF13 HB13 ⊢
    have HXC13 : Hid (Loc w39 R35 C [.string (ofL []), .int .i64 0, .slice none 0 0, .int .i64 0, .int .i64 0]) := Lib.hid (by rw [hw]; exact HXC12.out.keepsR (S := fun b => b = F) ((Keeps.refl (fun b => b = F) w37).setCell (p := ⟨F, 2, none⟩) (fun _ => rfl) _) HNCF.out)
    clear HP12 HF12 HXC12 HXF12 hw
    refine wpAnyH_done (by kernel_rfl) ?_ _
    go_wp2_with fail
    go_meet
    exact ⟨A5, c5, _, rfl, HP13.out, HF13.out, HXC13.out, HXF13.out, HB13.out, HHF.out, HHC.out⟩
   refine AllReadyH.cons rfl (fun K hK => ?_) AllReadyH.nil
   go_simp
   (go_at_call 63; refine (param_any _ _ _ _ _ _ HPM.out HP9.out).mono ?_; rintro e w40 ⟨rfl, R41, hp, hf⟩; (try go_simp))
   have HP10 := Lib.hid hp
   have HF10 := Lib.hid (HF9.out.trans hf)
   have HXC10 := Lib.hid (HXC9.out.keep hf)
   have HXF10 := Lib.hid (HXF9.out.keep hf)
   have HB10 := Lib.hid (own_keepG HB9.out.1 hf HB9.out.2)
   clear HP9 HF9 HXC9 HXF9 HB9 hp hf 
   refine hK.out _ _ trivial (fun _ => ?_)
   clear hK K
   refine wpAnyH_ready (rs := [1, 4]) (by kernel_rfl) (by simp) ?_
   refine AllReadyH.cons rfl (fun K hK => ?_) ?_
   ·skip
    have zF2 := HXF10.out.cells 2 _ rfl
    go_simp
    refine hK.out _ _ trivial (fun _ => ?_)
    clear hK K
    clear zF2
    refine wpAnyH_ready (rs := [4]) (by kernel_rfl) (by simp) ?_
    refine AllReadyH.cons rfl (fun K hK => ?_) AllReadyH.nil
    go_simp
    refine hK.out _ _ trivial (fun _ => ?_)
    clear hK K
    have ka := Keeps.one w40 (.cells #[.string (ofL p0.1), .int .i64 p0.2] 69)
    obtain ⟨BQ, hBQ⟩ : ∃ BQ, BQ = w40.heap.size := ⟨_, rfl⟩
    obtain ⟨w42, hw⟩ : ∃ w42, w42 = w40.alloc (.cells #[.string (ofL p0.1), .int .i64 p0.2] 69) := ⟨_, rfl⟩
    have HNW : Hid (∀ j u, (PmV p0)[j]? = some u → w42.cell? ((⟨BQ, 0, none⟩ : Addr).add j) = some u) := Lib.hid (by rw [hw, hBQ]; exact newsG (w := w40) (PmV p0) 69)
    rw [← hBQ]
    rw [← hw] at ka ⊢
    clear hBQ hw
    have HP11 := Lib.hid (HP10.out.keep ka)
    have HF11 := Lib.hid (HF10.out.keeps ka)
    have HXC11 := Lib.hid (HXC10.out.keeps ka)
    have HXF11 := Lib.hid (HXF10.out.keeps ka)
    have HB11 := Lib.hid (own_keepG HB10.out.1 ((Fr.refl R41 w40).keeps ka) HB10.out.2)
    clear HP10 HF10 HXC10 HXF10 HB10 ka
    refine wpAnyH_ready (rs := [5]) (by kernel_rfl) (by simp) ?_
    refine AllReadyH.cons rfl (fun K hK => ?_) AllReadyH.nil
    refine step_append_atk (by rfl) (.tmp 29) (.tmp 32) 47 (by rfl) 0 69 ip _ 2 24 Tryz.underlying47 hip hp0 hp1 hp2 (by rfl) (by omega) (.slice none 0 0) (0) (flatP []) (by rfl) HB11.out.1 ⟨BQ, 0, none⟩ 1 1 (PmV p0) (by rfl) (by rfl) HNW.out (PmV_one _) (by omega) (by omega) (Nat.zero_le _) ?_
    intro v5 w43 h5 g5 b5
    obtain ⟨A5, c5, rfl⟩ := own_formk h5
    have hmm := own_more HP11.out HF11.out HLO.out HB11.out.2 (Keeps.refl (fun _ => False) w42) g5 b5
    have HP12 := Lib.hid hmm.1
    have HF12 := Lib.hid hmm.2.1
    have HB12 : Hid (w43.ownsRow 0 69 2 (.slice A5 (0 + 1) c5) (0 + 1) (flatP ([] ++ [p0])) ∧ ∀ g, (Value.slice A5 (0 + 1) c5).ownBlock = some g → ¬ R41 g ∧ w.heap.size ≤ g) := Lib.hid ⟨by rw [flatP_more]; exact h5, hmm.2.2.1⟩
    have HXC12 := Lib.hid (HXC11.out.keepsR hmm.2.2.2 (fun hv => HGC.out _ hv rfl))
    have HHC : Hid (∀ g, (Value.slice A5 (0 + 1) c5).ownBlock = some g → ¬ C = g) := Lib.hid (row_out b5 HXC11.out.lt HGC.out)
    have HXF12 := Lib.hid (HXF11.out.keepsR hmm.2.2.2 (fun hv => HGF.out _ hv rfl))
    have HHF : Hid (∀ g, (Value.slice A5 (0 + 1) c5).ownBlock = some g → ¬ F = g) := Lib.hid (row_out b5 HXF11.out.lt HGF.out)
    clear hmm h5 g5 b5 HP11 HF11 HXC11 HXF11 HB11
    refine hK.out _ _ trivial (fun _ => ?_)
    clear hK K
    simp only [Act.put, List.getElem_toArray, List.getElem_cons_succ, List.getElem_cons_zero, List.setIfInBounds_toArray, List.set_cons_succ, List.set_cons_zero]
    refine wpAnyH_take (i := 6) (v := ?_) rfl (by kernel_rfl) (by kernel_rfl) (by kernel_rfl) (fun _ _ _ h => h) (Or.inl ⟨by rfl, ?_⟩) (by assumption) ?_
    rotate_left
    ·(intro w' hSw; (try dsimp only at hSw); obtain ⟨_⟩ := hSw; go_simp; (try (with_reducible rfl)))
    simp only [Act.put, List.getElem_toArray, List.getElem_cons_succ, List.getElem_cons_zero, List.setIfInBounds_toArray, List.set_cons_succ, List.set_cons_zero]
    refine wpAnyH_ready (rs := [7]) (by kernel_rfl) (by simp) ?_
    refine AllReadyH.cons rfl (fun K hK => ?_) AllReadyH.nil
    have zF2 := HXF12.out.cells 2 _ rfl
    have gF2 := HXF12.out.fz 2
    go_simp
    refine hK.out _ _ trivial (fun _ => ?_)
    clear hK K
    clear zF2 gF2
    have hrow := ownsRow_keep HB12.out.1 (fun g hg => ((Keeps.refl (fun b => b = F) w43).setCell (p := ⟨F, 2, none⟩) (fun _ => rfl) (.slice A5 (0 + 1) c5)).block g (own_ltk HB12.out.1 hg) (fun e => HHF.out g hg (show g = F from e).symm))
    have HB13 := Lib.hid (And.intro hrow HB12.out.2)
    clear hrow HB12
    obtain ⟨w45, hw⟩ : ∃ w45, w45 = w43.setCell ⟨F, 2, none⟩ (.slice A5 (0 + 1) c5) := ⟨_, rfl⟩
    have HP13 := Lib.hid (HP12.out.local HXF12.out.out (Nat.lt_of_lt_of_le HLO.out HWF.out) 2 (.slice A5 (0 + 1) c5))
    have HF13 := Lib.hid (HF12.out.local HWF.out 2 (.slice A5 (0 + 1) c5))
    have HXF13 : Hid (Loc w45 R41 F [.string (ofL x), .int .i64 ln, .slice A5 (0 + 1) c5, .int .i64 0, .int .i64 0]) := Lib.hid (by rw [hw]; exact HXF12.out.set 2 (.slice A5 (0 + 1) c5) (by simp))
    rw [← hw] at HP13 HF13 HB13 ⊢
    have HXC13 : Hid (Loc w45 R41 C [.string (ofL []), .int .i64 0, .slice none 0 0, .int .i64 0, .int .i64 0]) := Lib.hid (by rw [hw]; exact HXC12.out.keepsR (S := fun b => b = F) ((Keeps.refl (fun b => b = F) w43).setCell (p := ⟨F, 2, none⟩) (fun _ => rfl) _) HNCF.out)
    clear HP12 HF12 HXC12 HXF12 hw
    refine wpAnyH_done (by kernel_rfl) ?_ _
    go_wp2_with fail
    go_meet
    exact ⟨A5, c5, _, rfl, HP13.out, HF13.out, HXC13.out, HXF13.out, HB13.out, HHF.out, HHC.out⟩
   refine AllReadyH.cons rfl (fun K hK => ?_) AllReadyH.nil
   go_simp
   refine hK.out _ _ trivial (fun _ => ?_)
   clear hK K
   have ka := Keeps.one w40 (.cells #[.string (ofL p0.1), .int .i64 p0.2] 69)
   obtain ⟨BQ, hBQ⟩ : ∃ BQ, BQ = w40.heap.size := ⟨_, rfl⟩
   obtain ⟨w46, hw⟩ : ∃ w46, w46 = w40.alloc (.cells #[.string (ofL p0.1), .int .i64 p0.2] 69) := ⟨_, rfl⟩
   have HNW : Hid (∀ j u, (PmV p0)[j]? = some u → w46.cell? ((⟨BQ, 0, none⟩ : Addr).add j) = some u) := Lib.hid (by rw [hw, hBQ]; exact newsG (w := w40) (PmV p0) 69)
   rw [← hBQ]
   rw [← hw] at ka ⊢
   clear hBQ hw
   have HP11 := Lib.hid (HP10.out.keep ka)
   have HF11 := Lib.hid (HF10.out.keeps ka)
   have HXC11 := Lib.hid (HXC10.out.keeps ka)
   have HXF11 := Lib.hid (HXF10.out.keeps ka)
   have HB11 := Lib.hid (own_keepG HB10.out.1 ((Fr.refl R41 w40).keeps ka) HB10.out.2)
   clear HP10 HF10 HXC10 HXF10 HB10 ka
   refine wpAnyH_ready (rs := [1]) (by kernel_rfl) (by simp) ?_
   refine AllReadyH.cons rfl (fun K hK => ?_) AllReadyH.nil
   have zF2 := HXF11.out.cells 2 _ rfl
   go_simp
   refine hK.out _ _ trivial (fun _ => ?_)
   clear hK K
   clear zF2
   refine wpAnyH_ready (rs := [5]) (by kernel_rfl) (by simp) ?_
   refine AllReadyH.cons rfl (fun K hK => ?_) AllReadyH.nil
   refine step_append_atk (by rfl) (.tmp 29) (.tmp 32) 47 (by rfl) 0 69 ip _ 2 24 Tryz.underlying47 hip hp0 hp1 hp2 (by rfl) (by omega) (.slice none 0 0) (0) (flatP []) (by rfl) HB11.out.1 ⟨BQ, 0, none⟩ 1 1 (PmV p0) (by rfl) (by rfl) HNW.out (PmV_one _) (by omega) (by omega) (Nat.zero_le _) ?_
   intro v5 w47 h5 g5 b5
   obtain ⟨A5, c5, rfl⟩ := own_formk h5
   have hmm := own_more HP11.out HF11.out HLO.out HB11.out.2 (Keeps.refl (fun _ => False) w46) g5 b5
   have HP12 := Lib.hid hmm.1
   have HF12 := Lib.hid hmm.2.1
   have HB12 : Hid (w47.ownsRow 0 69 2 (.slice A5 (0 + 1) c5) (0 + 1) (flatP ([] ++ [p0])) ∧ ∀ g, (Value.slice A5 (0 + 1) c5).ownBlock = some g → ¬ R41 g ∧ w.heap.size ≤ g) := Lib.hid ⟨by rw [flatP_more]; exact h5, hmm.2.2.1⟩
   have HXC12 := Lib.hid (HXC11.out.keepsR hmm.2.2.2 (fun hv => HGC.out _ hv rfl))
   have HHC : Hid (∀ g, (Value.slice A5 (0 + 1) c5).ownBlock = some g → ¬ C = g) := Lib.hid (row_out b5 HXC11.out.lt HGC.out)
   have HXF12 := Lib.hid (HXF11.out.keepsR hmm.2.2.2 (fun hv => HGF.out _ hv rfl))
   have HHF : Hid (∀ g, (Value.slice A5 (0 + 1) c5).ownBlock = some g → ¬ F = g) := Lib.hid (row_out b5 HXF11.out.lt HGF.out)
   clear hmm h5 g5 b5 HP11 HF11 HXC11 HXF11 HB11
   refine hK.out _ _ trivial (fun _ => ?_)
   clear hK K
   simp only [Act.put, List.getElem_toArray, List.getElem_cons_succ, List.getElem_cons_zero, List.setIfInBounds_toArray, List.set_cons_succ, List.set_cons_zero]
   refine wpAnyH_take (i := 6) (v := ?_) rfl (by kernel_rfl) (by kernel_rfl) (by kernel_rfl) (fun _ _ _ h => h) (Or.inl ⟨by rfl, ?_⟩) (by assumption) ?_
   rotate_left
   ·(intro w' hSw; (try dsimp only at hSw); obtain ⟨_⟩ := hSw; go_simp; (try (with_reducible rfl)))
   simp only [Act.put, List.getElem_toArray, List.getElem_cons_succ, List.getElem_cons_zero, List.setIfInBounds_toArray, List.set_cons_succ, List.set_cons_zero]
   refine wpAnyH_ready (rs := [7]) (by kernel_rfl) (by simp) ?_
   refine AllReadyH.cons rfl (fun K hK => ?_) AllReadyH.nil
   have zF2 := HXF12.out.cells 2 _ rfl
   have gF2 := HXF12.out.fz 2
   go_simp
   refine hK.out _ _ trivial (fun _ => ?_)
   clear hK K
   clear zF2 gF2
   have hrow := ownsRow_keep HB12.out.1 (fun g hg => ((Keeps.refl (fun b => b = F) w47).setCell (p := ⟨F, 2, none⟩) (fun _ => rfl) (.slice A5 (0 + 1) c5)).block g (own_ltk HB12.out.1 hg) (fun e => HHF.out g hg (show g = F from e).symm))
   have HB13 := Lib.hid (And.intro hrow HB12.out.2)
   clear hrow HB12
   obtain ⟨w49, hw⟩ : ∃ w49, w49 = w47.setCell ⟨F, 2, none⟩ (.slice A5 (0 + 1) c5) := ⟨_, rfl⟩
   have HP13 := Lib.hid (HP12.out.local HXF12.out.out (Nat.lt_of_lt_of_le HLO.out HWF.out) 2 (.slice A5 (0 + 1) c5))
   have HF13 := Lib.hid (HF12.out.local HWF.out 2 (.slice A5 (0 + 1) c5))
   have HXF13 : Hid (Loc w49 R41 F [.string (ofL x), .int .i64 ln, .slice A5 (0 + 1) c5, .int .i64 0, .int .i64 0]) := Lib.hid (by rw [hw]; exact HXF12.out.set 2 (.slice A5 (0 + 1) c5) (by simp))
   rw [← hw] at HP13 HF13 HB13 ⊢
   have HXC13 : Hid (Loc w49 R41 C [.string (ofL []), .int .i64 0, .slice none 0 0, .int .i64 0, .int .i64 0]) := Lib.hid (by rw [hw]; exact HXC12.out.keepsR (S := fun b => b = F) ((Keeps.refl (fun b => b = F) w47).setCell (p := ⟨F, 2, none⟩) (fun _ => rfl) _) HNCF.out)
   clear HP12 HF12 HXC12 HXF12 hw
   refine wpAnyH_done (by kernel_rfl) ?_ _
   go_wp2_with fail
   go_meet
   exact ⟨A5, c5, _, rfl, HP13.out, HF13.out, HXC13.out, HXF13.out, HB13.out, HHF.out, HHC.out⟩
  case rest =>
   obtain ⟨A50, c51, R52, rfl, hp, hf, hxc, hx, hb, hg, hgc⟩ := hcut
   clear HP8 HF8 HXC8 HXF8 HB8 HGF HGC HPM
   have HP0 := Lib.hid hp
   have HF0 := Lib.hid hf
   have HXC0 := Lib.hid hxc
   have HXF0 := Lib.hid hx
   have HB0 := Lib.hid hb
   have HGF := Lib.hid hg
   have HGC := Lib.hid hgc
   clear hp hf hx hb hg hgc hxc
   go_wp2_with fail
   go_loopg [] N (fun k wr => ∃ (l : List (List UInt8 × Int)) (A : Option Addr) (n c : Nat) (sk : PS) (Rk : Nat → Prop), n = l.length ∧ n + k ≤ N + 1 ∧ paramsR T k l sk = some (L, sL) ∧ Par wr P src T Rk sk ∧ Fr R w Rk wr ∧ Loc wr Rk C [.string (ofL []), .int .i64 0, .slice none 0 0, .int .i64 0, .int .i64 0] ∧ Loc wr Rk F [.string (ofL x), .int .i64 ln, .slice A n c, .int .i64 0, .int .i64 0] ∧ (wr.ownsRow 0 69 2 (.slice A n c) n (flatP l) ∧ ∀ g, (Value.slice A n c).ownBlock = some g → ¬ Rk g ∧ w.heap.size ≤ g) ∧ (∀ g, (Value.slice A n c).ownBlock = some g → ¬ F = g) ∧ ∀ g, (Value.slice A n c).ownBlock = some g → ¬ C = g)
   case atStart => exact ⟨[p0], _, 1, _, _, _, rfl, by omega, HA.out, HP0.out, HF0.out, HXC0.out, HXF0.out, HB0.out, HGF.out, HGC.out⟩
   case round =>
    obtain ⟨l, A, n, c, sk, Rk, hnl, hnk, hm, hp, hf, hxc, hx, hb, hg, hgc⟩ := hrel
    clear HP0 HF0 HXC0 HXF0 HB0 HA HGF HGC
    cases gk with
    | zero =>
     have h0 : (none : Option (List (List UInt8 × Int) × PS)) = some (L, sL) := hm
     cases h0
    | succ k =>
     unfold paramsR at hm
     have HP0 := Lib.hid hp
     have HF0 := Lib.hid hf
     have HXC0 := Lib.hid hxc
     have HXF0 := Lib.hid hx
     have HB0 := Lib.hid hb
     have HGF := Lib.hid hg
     have HGC := Lib.hid hgc
     have HA := Lib.hid hm
     have HNL := Lib.hid hnl
     have HNK := Lib.hid hnk
     have hn2 : n ≤ 100001 := by omega
     clear hp hf hx hxc hb hg hgc hm hnl hnk
     obtain ⟨b, hb, h⟩ := ask_out HA.out
     have IC := Lib.hid (is_at1 HP0.out ({ data := #[44] }) hb)
     replace HA := Lib.hid h
     clear h hb
     cases b with
     | true =>
      have h := HA.out
      rw [if_pos rfl] at h
      replace HA := Lib.hid h
      clear h
      go_wp2_with fail
      refine IC.out.mono ?_
      rintro e w53 ⟨rfl, k1⟩
      have HP1 := Lib.hid (HP0.out.keep k1)
      have HF1 := Lib.hid (HF0.out.keeps k1)
      have HXC1 := Lib.hid (HXC0.out.keeps k1)
      have HXF1 := Lib.hid (HXF0.out.keeps k1)
      have HB1 := Lib.hid (own_keepG HB0.out.1 ((Fr.refl Rk wr).keeps k1) HB0.out.2)
      clear HP0 HF0 HXC0 HXF0 HB0 IC k1 
      obtain ⟨s54, e1, h⟩ := mod_out HA.out
      have NC := Lib.hid (next_at HP1.out e1)
      replace HA := Lib.hid h
      clear h e1
      go_wp2_with fail
      refine NC.out.mono ?_
      rintro e w55 ⟨rfl, R56, hp, hf⟩
      have HP2 := Lib.hid hp
      have HF2 := Lib.hid (HF1.out.trans hf)
      have HXC2 := Lib.hid (HXC1.out.keep hf)
      have HXF2 := Lib.hid (HXF1.out.keep hf)
      have HB2 := Lib.hid (own_keepG HB1.out.1 hf HB1.out.2)
      clear HP1 HF1 HXC1 HXF1 HB1 hp hf NC 
      obtain ⟨p1, s57, hm, h⟩ := bind_out HA.out
      have HPM : Hid (paramM T s54 = some ((p1.1, p1.2), s57)) := Lib.hid hm
      replace HA := Lib.hid h
      clear h hm
      go_upto_region 9 with fail
      refine wp_region_held_drew (S := fun _ => True) (by kernel_rfl) trivial (fun _ => ?_)
      have k1 : Keeps (fun _ => False) w55 w55.drew := (Keeps.refl (fun _ => False) w55).drew
      generalize w55.drew = w58 at k1 ⊢
      have HP3 := Lib.hid (HP2.out.keep k1)
      have HF3 := Lib.hid (HF2.out.keeps k1)
      have HXC3 := Lib.hid (HXC2.out.keeps k1)
      have HXF3 := Lib.hid (HXF2.out.keeps k1)
      have HB3 := Lib.hid (own_keepG HB2.out.1 ((Fr.refl R56 w55).keeps k1) HB2.out.2)
      clear HP2 HF2 HXC2 HXF2 HB2 k1
      refine wpAnyH_take (i := 0) (v := ?_) rfl (by kernel_rfl) (by kernel_rfl) (by kernel_rfl) (fun _ _ _ h => h) (Or.inl ⟨by rfl, ?_⟩) (by assumption) ?_
      rotate_left
      ·(intro w' hSw; (try dsimp only at hSw); obtain ⟨_⟩ := hSw; go_simp; (try (with_reducible rfl)))
      simp only [Act.put, List.getElem_toArray, List.getElem_cons_succ, List.getElem_cons_zero, List.setIfInBounds_toArray, List.set_cons_succ, List.set_cons_zero]
      refine wpAnyH_take (i := 2) (v := ?_) rfl (by kernel_rfl) (by kernel_rfl) (by kernel_rfl) (fun _ _ _ h => h) (Or.inl ⟨by rfl, ?_⟩) (by assumption) ?_
      rotate_left
      ·(intro w' hSw; (try dsimp only at hSw); obtain ⟨_⟩ := hSw; go_simp; (try (with_reducible rfl)))
      simp only [Act.put, List.getElem_toArray, List.getElem_cons_succ, List.getElem_cons_zero, List.setIfInBounds_toArray, List.set_cons_succ, List.set_cons_zero]
      refine wpAnyH_ready (rs := [1, 3]) (by kernel_rfl) (by simp) ?_
      refine AllReadyH.cons rfl (fun K hK => ?_) ?_
      ·skip
       have zF2 := HXF3.out.cells 2 _ rfl
       go_simp
       refine hK.out _ _ trivial (fun _ => ?_)
       clear hK K
       clear zF2
       refine wpAnyH_ready (rs := [3]) (by kernel_rfl) (by simp) ?_
       refine AllReadyH.cons rfl (fun K hK => ?_) AllReadyH.nil
       go_simp
       (go_at_call 63; refine (param_any _ _ _ _ _ _ HPM.out HP3.out).mono ?_; rintro e w59 ⟨rfl, R60, hp, hf⟩; (try go_simp))
       have HP4 := Lib.hid hp
       have HF4 := Lib.hid (HF3.out.trans hf)
       have HXC4 := Lib.hid (HXC3.out.keep hf)
       have HXF4 := Lib.hid (HXF3.out.keep hf)
       have HB4 := Lib.hid (own_keepG HB3.out.1 hf HB3.out.2)
       clear HP3 HF3 HXC3 HXF3 HB3 hp hf 
       refine hK.out _ _ trivial (fun _ => ?_)
       clear hK K
       refine wpAnyH_ready (rs := [4]) (by kernel_rfl) (by simp) ?_
       refine AllReadyH.cons rfl (fun K hK => ?_) AllReadyH.nil
       go_simp
       refine hK.out _ _ trivial (fun _ => ?_)
       clear hK K
       have ka := Keeps.one w59 (.cells #[.string (ofL p1.1), .int .i64 p1.2] 69)
       obtain ⟨BQ, hBQ⟩ : ∃ BQ, BQ = w59.heap.size := ⟨_, rfl⟩
       obtain ⟨w61, hw⟩ : ∃ w61, w61 = w59.alloc (.cells #[.string (ofL p1.1), .int .i64 p1.2] 69) := ⟨_, rfl⟩
       have HNW : Hid (∀ j u, (PmV p1)[j]? = some u → w61.cell? ((⟨BQ, 0, none⟩ : Addr).add j) = some u) := Lib.hid (by rw [hw, hBQ]; exact newsG (w := w59) (PmV p1) 69)
       rw [← hBQ]
       rw [← hw] at ka ⊢
       clear hBQ hw
       have HP5 := Lib.hid (HP4.out.keep ka)
       have HF5 := Lib.hid (HF4.out.keeps ka)
       have HXC5 := Lib.hid (HXC4.out.keeps ka)
       have HXF5 := Lib.hid (HXF4.out.keeps ka)
       have HB5 := Lib.hid (own_keepG HB4.out.1 ((Fr.refl R60 w59).keeps ka) HB4.out.2)
       clear HP4 HF4 HXC4 HXF4 HB4 ka
       refine wpAnyH_ready (rs := [5]) (by kernel_rfl) (by simp) ?_
       refine AllReadyH.cons rfl (fun K hK => ?_) AllReadyH.nil
       refine step_append_atk (by rfl) (.tmp 45) (.tmp 48) 47 (by rfl) 0 69 ip _ 2 24 Tryz.underlying47 hip hp0 hp1 hp2 (by rfl) (by omega) (.slice A n c) (n) (flatP l) (by rfl) HB5.out.1 ⟨BQ, 0, none⟩ 1 1 (PmV p1) (by rfl) (by rfl) HNW.out (PmV_one _) (by omega) (by omega) (Nat.zero_le _) ?_
       intro v5 w62 h5 g5 b5
       obtain ⟨A5, c5, rfl⟩ := own_formk h5
       have hmm := own_more HP5.out HF5.out HLO.out HB5.out.2 (Keeps.refl (fun _ => False) w61) g5 b5
       have HP6 := Lib.hid hmm.1
       have HF6 := Lib.hid hmm.2.1
       have HB6 : Hid (w62.ownsRow 0 69 2 (.slice A5 (n + 1) c5) (n + 1) (flatP (l ++ [p1])) ∧ ∀ g, (Value.slice A5 (n + 1) c5).ownBlock = some g → ¬ R60 g ∧ w.heap.size ≤ g) := Lib.hid ⟨by rw [flatP_more]; exact h5, hmm.2.2.1⟩
       have HXC6 := Lib.hid (HXC5.out.keepsR hmm.2.2.2 (fun hv => HGC.out _ hv rfl))
       have HHC : Hid (∀ g, (Value.slice A5 (n + 1) c5).ownBlock = some g → ¬ C = g) := Lib.hid (row_out b5 HXC5.out.lt HGC.out)
       have HXF6 := Lib.hid (HXF5.out.keepsR hmm.2.2.2 (fun hv => HGF.out _ hv rfl))
       have HHF : Hid (∀ g, (Value.slice A5 (n + 1) c5).ownBlock = some g → ¬ F = g) := Lib.hid (row_out b5 HXF5.out.lt HGF.out)
       clear hmm h5 g5 b5 HP5 HF5 HXC5 HXF5 HB5
       refine hK.out _ _ trivial (fun _ => ?_)
       clear hK K
       simp only [Act.put, List.getElem_toArray, List.getElem_cons_succ, List.getElem_cons_zero, List.setIfInBounds_toArray, List.set_cons_succ, List.set_cons_zero]
       refine wpAnyH_take (i := 6) (v := ?_) rfl (by kernel_rfl) (by kernel_rfl) (by kernel_rfl) (fun _ _ _ h => h) (Or.inl ⟨by rfl, ?_⟩) (by assumption) ?_
       rotate_left
       ·(intro w' hSw; (try dsimp only at hSw); obtain ⟨_⟩ := hSw; go_simp; (try (with_reducible rfl)))
       simp only [Act.put, List.getElem_toArray, List.getElem_cons_succ, List.getElem_cons_zero, List.setIfInBounds_toArray, List.set_cons_succ, List.set_cons_zero]
       refine wpAnyH_ready (rs := [7]) (by kernel_rfl) (by simp) ?_
       refine AllReadyH.cons rfl (fun K hK => ?_) AllReadyH.nil
       have zF2 := HXF6.out.cells 2 _ rfl
       have gF2 := HXF6.out.fz 2
       go_simp
       refine hK.out _ _ trivial (fun _ => ?_)
       clear hK K
       clear zF2 gF2
       have hrow := ownsRow_keep HB6.out.1 (fun g hg => ((Keeps.refl (fun b => b = F) w62).setCell (p := ⟨F, 2, none⟩) (fun _ => rfl) (.slice A5 (n + 1) c5)).block g (own_ltk HB6.out.1 hg) (fun e => HHF.out g hg (show g = F from e).symm))
       have HB7 := Lib.hid (And.intro hrow HB6.out.2)
       clear hrow HB6
       obtain ⟨w64, hw⟩ : ∃ w64, w64 = w62.setCell ⟨F, 2, none⟩ (.slice A5 (n + 1) c5) := ⟨_, rfl⟩
       have HP7 := Lib.hid (HP6.out.local HXF6.out.out (Nat.lt_of_lt_of_le HLO.out HWF.out) 2 (.slice A5 (n + 1) c5))
       have HF7 := Lib.hid (HF6.out.local HWF.out 2 (.slice A5 (n + 1) c5))
       have HXF7 : Hid (Loc w64 R60 F [.string (ofL x), .int .i64 ln, .slice A5 (n + 1) c5, .int .i64 0, .int .i64 0]) := Lib.hid (by rw [hw]; exact HXF6.out.set 2 (.slice A5 (n + 1) c5) (by simp))
       rw [← hw] at HP7 HF7 HB7 ⊢
       have HXC7 : Hid (Loc w64 R60 C [.string (ofL []), .int .i64 0, .slice none 0 0, .int .i64 0, .int .i64 0]) := Lib.hid (by rw [hw]; exact HXC6.out.keepsR (S := fun b => b = F) ((Keeps.refl (fun b => b = F) w62).setCell (p := ⟨F, 2, none⟩) (fun _ => rfl) _) HNCF.out)
       clear HP6 HF6 HXC6 HXF6 hw
       refine wpAnyH_done (by kernel_rfl) ?_ _
       go_wp2_with fail
       go_roundg k
       case measure => go_light; omega
       case rel => exact ⟨l ++ [p1], _, n + 1, _, _, _, by rw [List.length_append, ← HNL.out]; rfl, by have := HNK.out; go_light; omega, HA.out, HP7.out, HF7.out, HXC7.out, HXF7.out, HB7.out, HHF.out, HHC.out⟩
      refine AllReadyH.cons rfl (fun K hK => ?_) AllReadyH.nil
      go_simp
      (go_at_call 63; refine (param_any _ _ _ _ _ _ HPM.out HP3.out).mono ?_; rintro e w65 ⟨rfl, R66, hp, hf⟩; (try go_simp))
      have HP4 := Lib.hid hp
      have HF4 := Lib.hid (HF3.out.trans hf)
      have HXC4 := Lib.hid (HXC3.out.keep hf)
      have HXF4 := Lib.hid (HXF3.out.keep hf)
      have HB4 := Lib.hid (own_keepG HB3.out.1 hf HB3.out.2)
      clear HP3 HF3 HXC3 HXF3 HB3 hp hf 
      refine hK.out _ _ trivial (fun _ => ?_)
      clear hK K
      refine wpAnyH_ready (rs := [1, 4]) (by kernel_rfl) (by simp) ?_
      refine AllReadyH.cons rfl (fun K hK => ?_) ?_
      ·skip
       have zF2 := HXF4.out.cells 2 _ rfl
       go_simp
       refine hK.out _ _ trivial (fun _ => ?_)
       clear hK K
       clear zF2
       refine wpAnyH_ready (rs := [4]) (by kernel_rfl) (by simp) ?_
       refine AllReadyH.cons rfl (fun K hK => ?_) AllReadyH.nil
       go_simp
       refine hK.out _ _ trivial (fun _ => ?_)
       clear hK K
       have ka := Keeps.one w65 (.cells #[.string (ofL p1.1), .int .i64 p1.2] 69)
       obtain ⟨BQ, hBQ⟩ : ∃ BQ, BQ = w65.heap.size := ⟨_, rfl⟩
       obtain ⟨w67, hw⟩ : ∃ w67, w67 = w65.alloc (.cells #[.string (ofL p1.1), .int .i64 p1.2] 69) := ⟨_, rfl⟩
       have HNW : Hid (∀ j u, (PmV p1)[j]? = some u → w67.cell? ((⟨BQ, 0, none⟩ : Addr).add j) = some u) := Lib.hid (by rw [hw, hBQ]; exact newsG (w := w65) (PmV p1) 69)
       rw [← hBQ]
       rw [← hw] at ka ⊢
       clear hBQ hw
       have HP5 := Lib.hid (HP4.out.keep ka)
       have HF5 := Lib.hid (HF4.out.keeps ka)
       have HXC5 := Lib.hid (HXC4.out.keeps ka)
       have HXF5 := Lib.hid (HXF4.out.keeps ka)
       have HB5 := Lib.hid (own_keepG HB4.out.1 ((Fr.refl R66 w65).keeps ka) HB4.out.2)
       clear HP4 HF4 HXC4 HXF4 HB4 ka
       refine wpAnyH_ready (rs := [5]) (by kernel_rfl) (by simp) ?_
       refine AllReadyH.cons rfl (fun K hK => ?_) AllReadyH.nil
       refine step_append_atk (by rfl) (.tmp 45) (.tmp 48) 47 (by rfl) 0 69 ip _ 2 24 Tryz.underlying47 hip hp0 hp1 hp2 (by rfl) (by omega) (.slice A n c) (n) (flatP l) (by rfl) HB5.out.1 ⟨BQ, 0, none⟩ 1 1 (PmV p1) (by rfl) (by rfl) HNW.out (PmV_one _) (by omega) (by omega) (Nat.zero_le _) ?_
       intro v5 w68 h5 g5 b5
       obtain ⟨A5, c5, rfl⟩ := own_formk h5
       have hmm := own_more HP5.out HF5.out HLO.out HB5.out.2 (Keeps.refl (fun _ => False) w67) g5 b5
       have HP6 := Lib.hid hmm.1
       have HF6 := Lib.hid hmm.2.1
       have HB6 : Hid (w68.ownsRow 0 69 2 (.slice A5 (n + 1) c5) (n + 1) (flatP (l ++ [p1])) ∧ ∀ g, (Value.slice A5 (n + 1) c5).ownBlock = some g → ¬ R66 g ∧ w.heap.size ≤ g) := Lib.hid ⟨by rw [flatP_more]; exact h5, hmm.2.2.1⟩
       have HXC6 := Lib.hid (HXC5.out.keepsR hmm.2.2.2 (fun hv => HGC.out _ hv rfl))
       have HHC : Hid (∀ g, (Value.slice A5 (n + 1) c5).ownBlock = some g → ¬ C = g) := Lib.hid (row_out b5 HXC5.out.lt HGC.out)
       have HXF6 := Lib.hid (HXF5.out.keepsR hmm.2.2.2 (fun hv => HGF.out _ hv rfl))
       have HHF : Hid (∀ g, (Value.slice A5 (n + 1) c5).ownBlock = some g → ¬ F = g) := Lib.hid (row_out b5 HXF5.out.lt HGF.out)
       clear hmm h5 g5 b5 HP5 HF5 HXC5 HXF5 HB5
       refine hK.out _ _ trivial (fun _ => ?_)
       clear hK K
       simp only [Act.put, List.getElem_toArray, List.getElem_cons_succ, List.getElem_cons_zero, List.setIfInBounds_toArray, List.set_cons_succ, List.set_cons_zero]
       refine wpAnyH_take (i := 6) (v := ?_) rfl (by kernel_rfl) (by kernel_rfl) (by kernel_rfl) (fun _ _ _ h => h) (Or.inl ⟨by rfl, ?_⟩) (by assumption) ?_
       rotate_left
       ·(intro w' hSw; (try dsimp only at hSw); obtain ⟨_⟩ := hSw; go_simp; (try (with_reducible rfl)))
       simp only [Act.put, List.getElem_toArray, List.getElem_cons_succ, List.getElem_cons_zero, List.setIfInBounds_toArray, List.set_cons_succ, List.set_cons_zero]
       refine wpAnyH_ready (rs := [7]) (by kernel_rfl) (by simp) ?_
       refine AllReadyH.cons rfl (fun K hK => ?_) AllReadyH.nil
       have zF2 := HXF6.out.cells 2 _ rfl
       have gF2 := HXF6.out.fz 2
       go_simp
       refine hK.out _ _ trivial (fun _ => ?_)
       clear hK K
       clear zF2 gF2
       have hrow := ownsRow_keep HB6.out.1 (fun g hg => ((Keeps.refl (fun b => b = F) w68).setCell (p := ⟨F, 2, none⟩) (fun _ => rfl) (.slice A5 (n + 1) c5)).block g (own_ltk HB6.out.1 hg) (fun e => HHF.out g hg (show g = F from e).symm))
       have HB7 := Lib.hid (And.intro hrow HB6.out.2)
       clear hrow HB6
       obtain ⟨w70, hw⟩ : ∃ w70, w70 = w68.setCell ⟨F, 2, none⟩ (.slice A5 (n + 1) c5) := ⟨_, rfl⟩
       have HP7 := Lib.hid (HP6.out.local HXF6.out.out (Nat.lt_of_lt_of_le HLO.out HWF.out) 2 (.slice A5 (n + 1) c5))
       have HF7 := Lib.hid (HF6.out.local HWF.out 2 (.slice A5 (n + 1) c5))
       have HXF7 : Hid (Loc w70 R66 F [.string (ofL x), .int .i64 ln, .slice A5 (n + 1) c5, .int .i64 0, .int .i64 0]) := Lib.hid (by rw [hw]; exact HXF6.out.set 2 (.slice A5 (n + 1) c5) (by simp))
       rw [← hw] at HP7 HF7 HB7 ⊢
       have HXC7 : Hid (Loc w70 R66 C [.string (ofL []), .int .i64 0, .slice none 0 0, .int .i64 0, .int .i64 0]) := Lib.hid (by rw [hw]; exact HXC6.out.keepsR (S := fun b => b = F) ((Keeps.refl (fun b => b = F) w68).setCell (p := ⟨F, 2, none⟩) (fun _ => rfl) _) HNCF.out)
       clear HP6 HF6 HXC6 HXF6 hw
       refine wpAnyH_done (by kernel_rfl) ?_ _
       go_wp2_with fail
       go_roundg k
       case measure => go_light; omega
       case rel => exact ⟨l ++ [p1], _, n + 1, _, _, _, by rw [List.length_append, ← HNL.out]; rfl, by have := HNK.out; go_light; omega, HA.out, HP7.out, HF7.out, HXC7.out, HXF7.out, HB7.out, HHF.out, HHC.out⟩
      refine AllReadyH.cons rfl (fun K hK => ?_) AllReadyH.nil
      go_simp
      refine hK.out _ _ trivial (fun _ => ?_)
      clear hK K
      have ka := Keeps.one w65 (.cells #[.string (ofL p1.1), .int .i64 p1.2] 69)
      obtain ⟨BQ, hBQ⟩ : ∃ BQ, BQ = w65.heap.size := ⟨_, rfl⟩
      obtain ⟨w71, hw⟩ : ∃ w71, w71 = w65.alloc (.cells #[.string (ofL p1.1), .int .i64 p1.2] 69) := ⟨_, rfl⟩
      have HNW : Hid (∀ j u, (PmV p1)[j]? = some u → w71.cell? ((⟨BQ, 0, none⟩ : Addr).add j) = some u) := Lib.hid (by rw [hw, hBQ]; exact newsG (w := w65) (PmV p1) 69)
      rw [← hBQ]
      rw [← hw] at ka ⊢
      clear hBQ hw
      have HP5 := Lib.hid (HP4.out.keep ka)
      have HF5 := Lib.hid (HF4.out.keeps ka)
      have HXC5 := Lib.hid (HXC4.out.keeps ka)
      have HXF5 := Lib.hid (HXF4.out.keeps ka)
      have HB5 := Lib.hid (own_keepG HB4.out.1 ((Fr.refl R66 w65).keeps ka) HB4.out.2)
      clear HP4 HF4 HXC4 HXF4 HB4 ka
      refine wpAnyH_ready (rs := [1]) (by kernel_rfl) (by simp) ?_
      refine AllReadyH.cons rfl (fun K hK => ?_) AllReadyH.nil
      have zF2 := HXF5.out.cells 2 _ rfl
      go_simp
      refine hK.out _ _ trivial (fun _ => ?_)
      clear hK K
      clear zF2
      refine wpAnyH_ready (rs := [5]) (by kernel_rfl) (by simp) ?_
      refine AllReadyH.cons rfl (fun K hK => ?_) AllReadyH.nil
      refine step_append_atk (by rfl) (.tmp 45) (.tmp 48) 47 (by rfl) 0 69 ip _ 2 24 Tryz.underlying47 hip hp0 hp1 hp2 (by rfl) (by omega) (.slice A n c) (n) (flatP l) (by rfl) HB5.out.1 ⟨BQ, 0, none⟩ 1 1 (PmV p1) (by rfl) (by rfl) HNW.out (PmV_one _) (by omega) (by omega) (Nat.zero_le _) ?_
      intro v5 w72 h5 g5 b5
      obtain ⟨A5, c5, rfl⟩ := own_formk h5
      have hmm := own_more HP5.out HF5.out HLO.out HB5.out.2 (Keeps.refl (fun _ => False) w71) g5 b5
      have HP6 := Lib.hid hmm.1
      have HF6 := Lib.hid hmm.2.1
      have HB6 : Hid (w72.ownsRow 0 69 2 (.slice A5 (n + 1) c5) (n + 1) (flatP (l ++ [p1])) ∧ ∀ g, (Value.slice A5 (n + 1) c5).ownBlock = some g → ¬ R66 g ∧ w.heap.size ≤ g) := Lib.hid ⟨by rw [flatP_more]; exact h5, hmm.2.2.1⟩
      have HXC6 := Lib.hid (HXC5.out.keepsR hmm.2.2.2 (fun hv => HGC.out _ hv rfl))
      have HHC : Hid (∀ g, (Value.slice A5 (n + 1) c5).ownBlock = some g → ¬ C = g) := Lib.hid (row_out b5 HXC5.out.lt HGC.out)
      have HXF6 := Lib.hid (HXF5.out.keepsR hmm.2.2.2 (fun hv => HGF.out _ hv rfl))
      have HHF : Hid (∀ g, (Value.slice A5 (n + 1) c5).ownBlock = some g → ¬ F = g) := Lib.hid (row_out b5 HXF5.out.lt HGF.out)
      clear hmm h5 g5 b5 HP5 HF5 HXC5 HXF5 HB5
      refine hK.out _ _ trivial (fun _ => ?_)
      clear hK K
      simp only [Act.put, List.getElem_toArray, List.getElem_cons_succ, List.getElem_cons_zero, List.setIfInBounds_toArray, List.set_cons_succ, List.set_cons_zero]
      refine wpAnyH_take (i := 6) (v := ?_) rfl (by kernel_rfl) (by kernel_rfl) (by kernel_rfl) (fun _ _ _ h => h) (Or.inl ⟨by rfl, ?_⟩) (by assumption) ?_
      rotate_left
      ·(intro w' hSw; (try dsimp only at hSw); obtain ⟨_⟩ := hSw; go_simp; (try (with_reducible rfl)))
      simp only [Act.put, List.getElem_toArray, List.getElem_cons_succ, List.getElem_cons_zero, List.setIfInBounds_toArray, List.set_cons_succ, List.set_cons_zero]
      refine wpAnyH_ready (rs := [7]) (by kernel_rfl) (by simp) ?_
      refine AllReadyH.cons rfl (fun K hK => ?_) AllReadyH.nil
      have zF2 := HXF6.out.cells 2 _ rfl
      have gF2 := HXF6.out.fz 2
      go_simp
      refine hK.out _ _ trivial (fun _ => ?_)
      clear hK K
      clear zF2 gF2
      have hrow := ownsRow_keep HB6.out.1 (fun g hg => ((Keeps.refl (fun b => b = F) w72).setCell (p := ⟨F, 2, none⟩) (fun _ => rfl) (.slice A5 (n + 1) c5)).block g (own_ltk HB6.out.1 hg) (fun e => HHF.out g hg (show g = F from e).symm))
      have HB7 := Lib.hid (And.intro hrow HB6.out.2)
      clear hrow HB6
      obtain ⟨w74, hw⟩ : ∃ w74, w74 = w72.setCell ⟨F, 2, none⟩ (.slice A5 (n + 1) c5) := ⟨_, rfl⟩
      have HP7 := Lib.hid (HP6.out.local HXF6.out.out (Nat.lt_of_lt_of_le HLO.out HWF.out) 2 (.slice A5 (n + 1) c5))
      have HF7 := Lib.hid (HF6.out.local HWF.out 2 (.slice A5 (n + 1) c5))
      have HXF7 : Hid (Loc w74 R66 F [.string (ofL x), .int .i64 ln, .slice A5 (n + 1) c5, .int .i64 0, .int .i64 0]) := Lib.hid (by rw [hw]; exact HXF6.out.set 2 (.slice A5 (n + 1) c5) (by simp))
      rw [← hw] at HP7 HF7 HB7 ⊢
      have HXC7 : Hid (Loc w74 R66 C [.string (ofL []), .int .i64 0, .slice none 0 0, .int .i64 0, .int .i64 0]) := Lib.hid (by rw [hw]; exact HXC6.out.keepsR (S := fun b => b = F) ((Keeps.refl (fun b => b = F) w72).setCell (p := ⟨F, 2, none⟩) (fun _ => rfl) _) HNCF.out)
      clear HP6 HF6 HXC6 HXF6 hw
      refine wpAnyH_done (by kernel_rfl) ?_ _
      go_wp2_with fail
      go_roundg k
      case measure => go_light; omega
      case rel => exact ⟨l ++ [p1], _, n + 1, _, _, _, by rw [List.length_append, ← HNL.out]; rfl, by have := HNK.out; go_light; omega, HA.out, HP7.out, HF7.out, HXC7.out, HXF7.out, HB7.out, HHF.out, HHC.out⟩
     | false =>
      have h := HA.out
      rw [if_neg (by decide)] at h
      replace HA := Lib.hid h
      clear h
      go_wp2_with fail
      refine IC.out.mono ?_
      rintro e w75 ⟨rfl, k1⟩
      have HP1 := Lib.hid (HP0.out.keep k1)
      have HF1 := Lib.hid (HF0.out.keeps k1)
      have HXC1 := Lib.hid (HXC0.out.keeps k1)
      have HXF1 := Lib.hid (HXF0.out.keeps k1)
      have HB1 := Lib.hid (own_keepG HB0.out.1 ((Fr.refl Rk wr).keeps k1) HB0.out.2)
      clear HP0 HF0 HXC0 HXF0 HB0 IC k1 
      obtain ⟨q1, q2⟩ := pure_end HA.out
      subst q1
      subst q2
      clear HA
      obtain ⟨s76, e1, h⟩ := mod_out HM.out
      have NC := Lib.hid (want_at HP1.out ({ data := #[41] }) e1)
      replace HM := Lib.hid h
      clear h e1
      go_wp2_with fail
      refine NC.out.mono ?_
      rintro e w77 ⟨rfl, R78, hp, hf⟩
      have HP2 := Lib.hid hp
      have HF2 := Lib.hid (HF1.out.trans hf)
      have HXC2 := Lib.hid (HXC1.out.keep hf)
      have HXF2 := Lib.hid (HXF1.out.keep hf)
      have HB2 := Lib.hid (own_keepG HB1.out.1 hf HB1.out.2)
      clear HP1 HF1 HXC1 HXF1 HB1 hp hf NC 
      obtain ⟨rt, sR, hm, h⟩ := bind_out HM.out
      have HA := Lib.hid hm
      replace HM := Lib.hid h
      clear h hm
      unfold retM at HA
      obtain ⟨b, hb, h⟩ := ask_out HA.out
      have IC := Lib.hid (is_at1 HP2.out ({ data := #[123] }) hb)
      replace HA := Lib.hid h
      clear h hb
      cases b with
      | true =>
       have h := HA.out
       rw [if_pos rfl] at h
       replace HA := Lib.hid h
       clear h
       go_wp2_with fail
       refine IC.out.mono ?_
       rintro e w79 ⟨rfl, k1⟩
       have HP3 := Lib.hid (HP2.out.keep k1)
       have HF3 := Lib.hid (HF2.out.keeps k1)
       have HXC3 := Lib.hid (HXC2.out.keeps k1)
       have HXF3 := Lib.hid (HXF2.out.keeps k1)
       have HB3 := Lib.hid (own_keepG HB2.out.1 ((Fr.refl R78 w77).keeps k1) HB2.out.2)
       clear HP2 HF2 HXC2 HXF2 HB2 IC k1 
       obtain ⟨q1, q2⟩ := pure_end HA.out
       subst q1
       subst q2
       clear HA
       obtain ⟨y, s80, hm, h⟩ := bind_out HM.out
       have NC := Lib.hid (BL _ _ _ _ _ hm HP3.out)
       replace HM := Lib.hid h
       clear h hm
       go_wp2_with fail
       refine NC.out.mono ?_
       rintro e w81 ⟨rfl, R82, hp, hf⟩
       have HP4 := Lib.hid hp
       have HF4 := Lib.hid (HF3.out.trans hf)
       have HXC4 := Lib.hid (HXC3.out.keep hf)
       have HXF4 := Lib.hid (HXF3.out.keep hf)
       have HB4 := Lib.hid (own_keepG HB3.out.1 hf HB3.out.2)
       clear HP3 HF3 HXC3 HXF3 HB3 hp hf NC 
       have zF4 := HXF4.out.cells 4 _ rfl
       have gF4 := HXF4.out.fz 4
       go_upto_region 14 with fail
       clear zF4 gF4
       have hrow := ownsRow_keep HB4.out.1 (fun g hg => ((Keeps.refl (fun b => b = F) w81).setCell (p := ⟨F, 4, none⟩) (fun _ => rfl) (.int .i64 y)).block g (own_ltk HB4.out.1 hg) (fun e => HGF.out g hg (show g = F from e).symm))
       have HB5 := Lib.hid (And.intro hrow HB4.out.2)
       clear hrow HB4
       obtain ⟨w83, hw⟩ : ∃ w83, w83 = w81.setCell ⟨F, 4, none⟩ (.int .i64 y) := ⟨_, rfl⟩
       have HP5 := Lib.hid (HP4.out.local HXF4.out.out (Nat.lt_of_lt_of_le HLO.out HWF.out) 4 (.int .i64 y))
       have HF5 := Lib.hid (HF4.out.local HWF.out 4 (.int .i64 y))
       have HXF5 : Hid (Loc w83 R82 F [.string (ofL x), .int .i64 ln, .slice A n c, .int .i64 0, .int .i64 y]) := Lib.hid (by rw [hw]; exact HXF4.out.set 4 (.int .i64 y) (by simp))
       rw [← hw] at HP5 HF5 HB5 ⊢
       have HXC5 : Hid (Loc w83 R82 C [.string (ofL []), .int .i64 0, .slice none 0 0, .int .i64 0, .int .i64 0]) := Lib.hid (by rw [hw]; exact HXC4.out.keepsR (S := fun b => b = F) ((Keeps.refl (fun b => b = F) w81).setCell (p := ⟨F, 4, none⟩) (fun _ => rfl) _) HNCF.out)
       clear HP4 HF4 HXC4 HXF4 hw
       obtain ⟨q1, q2⟩ := pure_end HM.out
       subst q1
       subst q2
       have zF0 := HXF5.out.cells 0 _ rfl
       have zF1 := HXF5.out.cells 1 _ rfl
       have zF2 := HXF5.out.cells 2 _ rfl
       have zF3 := HXF5.out.cells 3 _ rfl
       have zF4 := HXF5.out.cells 4 _ rfl
       have zC0 := HXC5.out.cells 0 _ rfl
       have zC1 := HXC5.out.cells 1 _ rfl
       have zC2 := HXC5.out.cells 2 _ rfl
       have zC3 := HXC5.out.cells 3 _ rfl
       have zC4 := HXC5.out.cells 4 _ rfl
       have gC0 := HXC5.out.fz 0
       have gC1 := HXC5.out.fz 1
       have gC2 := HXC5.out.fz 2
       have gC3 := HXC5.out.fz 3
       have gC4 := HXC5.out.fz 4
       go_wp2_with fail
       (try simp only [Exit.inBlock, Exit.then])
       refine bodyPost_ret (v := .agg #[.string (ofL x), .int .i64 ln, .slice A n c, .int .i64 0, .int .i64 y]) ?_ rfl ?_
       ·rw [results_cell1 rfl]
        go_simp
       clear zF0 zF1 zF2 zF3 zF4 zC0 zC1 zC2 zC3 zC4 gC0 gC1 gC2 gC3 gC4
       have hnl : n = (L).length := HNL.out
       have kz := fun j u => (Keeps.refl (fun b => b = C) w83).setCell (p := ⟨C, j, none⟩) (fun _ => rfl) u
       have ky := fun (w1 : World) (k1 : Keeps (fun b => b = C) w83 w1) j u => k1.setCell (p := ⟨C, j, none⟩) (fun _ => rfl) u
       have kk := ky _ (ky _ (ky _ (ky _ (ky _ (Keeps.refl (fun b => b = C) w83) 0 (.string (ofL x))) 1 (.int .i64 ln)) 2 (.slice A n c)) 3 (.int .i64 0)) 4 (.int .i64 y)
       have hpl := HP5.out.keepR kk (fun b hr e => HXC5.out.out (e ▸ hr)) (fun b (e : b = C) => Nat.le_of_lt (Nat.lt_of_lt_of_le HLO.out (e.symm ▸ HWC.out)))
       have hfl : Fr R w R82 _ := ⟨HF5.out.1.trans (T := fun b => b = C) kk (fun x hx (e : x = C) => absurd (show w.heap.size ≤ x from e.symm ▸ HWC.out) (Nat.not_le.2 hx)), HF5.out.2⟩
       have hol := ownsRow_keep HB5.out.1 (fun g hg => kk.block g (own_ltk HB5.out.1 hg) (fun e => HGC.out g hg (show g = C from e).symm))
       exact ⟨A, c, by rw [hnl], own_len hnl hol, _, hpl, hfl, fun g hg => HB5.out.2 g ((own_blk _ _ _ _).trans hg)⟩
      | false =>
       have h := HA.out
       rw [if_neg (by decide)] at h
       replace HA := Lib.hid h
       clear h
       go_wp2_with fail
       refine IC.out.mono ?_
       rintro e w84 ⟨rfl, k1⟩
       have HP3 := Lib.hid (HP2.out.keep k1)
       have HF3 := Lib.hid (HF2.out.keeps k1)
       have HXC3 := Lib.hid (HXC2.out.keeps k1)
       have HXF3 := Lib.hid (HXF2.out.keeps k1)
       have HB3 := Lib.hid (own_keepG HB2.out.1 ((Fr.refl R78 w77).keeps k1) HB2.out.2)
       clear HP2 HF2 HXC2 HXF2 HB2 IC k1 
       have NC := Lib.hid (kind_any _ _ _ _ _ HA.out HP3.out)
       clear HA
       go_wp2_with fail
       refine NC.out.mono ?_
       rintro e w85 ⟨rfl, R86, hp, hf⟩
       have HP4 := Lib.hid hp
       have HF4 := Lib.hid (HF3.out.trans hf)
       have HXC4 := Lib.hid (HXC3.out.keep hf)
       have HXF4 := Lib.hid (HXF3.out.keep hf)
       have HB4 := Lib.hid (own_keepG HB3.out.1 hf HB3.out.2)
       clear HP3 HF3 HXC3 HXF3 HB3 hp hf NC 
       have zF3 := HXF4.out.cells 3 _ rfl
       have gF3 := HXF4.out.fz 3
       go_upto_region 13 with fail
       clear zF3 gF3
       have hrow := ownsRow_keep HB4.out.1 (fun g hg => ((Keeps.refl (fun b => b = F) w85).setCell (p := ⟨F, 3, none⟩) (fun _ => rfl) (.int .i64 rt)).block g (own_ltk HB4.out.1 hg) (fun e => HGF.out g hg (show g = F from e).symm))
       have HB5 := Lib.hid (And.intro hrow HB4.out.2)
       clear hrow HB4
       obtain ⟨w87, hw⟩ : ∃ w87, w87 = w85.setCell ⟨F, 3, none⟩ (.int .i64 rt) := ⟨_, rfl⟩
       have HP5 := Lib.hid (HP4.out.local HXF4.out.out (Nat.lt_of_lt_of_le HLO.out HWF.out) 3 (.int .i64 rt))
       have HF5 := Lib.hid (HF4.out.local HWF.out 3 (.int .i64 rt))
       have HXF5 : Hid (Loc w87 R86 F [.string (ofL x), .int .i64 ln, .slice A n c, .int .i64 rt, .int .i64 0]) := Lib.hid (by rw [hw]; exact HXF4.out.set 3 (.int .i64 rt) (by simp))
       rw [← hw] at HP5 HF5 HB5 ⊢
       have HXC5 : Hid (Loc w87 R86 C [.string (ofL []), .int .i64 0, .slice none 0 0, .int .i64 0, .int .i64 0]) := Lib.hid (by rw [hw]; exact HXC4.out.keepsR (S := fun b => b = F) ((Keeps.refl (fun b => b = F) w85).setCell (p := ⟨F, 3, none⟩) (fun _ => rfl) _) HNCF.out)
       clear HP4 HF4 HXC4 HXF4 hw
       obtain ⟨y, s88, hm, h⟩ := bind_out HM.out
       have NC := Lib.hid (BL _ _ _ _ _ hm HP5.out)
       replace HM := Lib.hid h
       clear h hm
       go_wp2_with fail
       refine NC.out.mono ?_
       rintro e w89 ⟨rfl, R90, hp, hf⟩
       have HP6 := Lib.hid hp
       have HF6 := Lib.hid (HF5.out.trans hf)
       have HXC6 := Lib.hid (HXC5.out.keep hf)
       have HXF6 := Lib.hid (HXF5.out.keep hf)
       have HB6 := Lib.hid (own_keepG HB5.out.1 hf HB5.out.2)
       clear HP5 HF5 HXC5 HXF5 HB5 hp hf NC 
       have zF4 := HXF6.out.cells 4 _ rfl
       have gF4 := HXF6.out.fz 4
       go_upto_region 14 with fail
       clear zF4 gF4
       have hrow := ownsRow_keep HB6.out.1 (fun g hg => ((Keeps.refl (fun b => b = F) w89).setCell (p := ⟨F, 4, none⟩) (fun _ => rfl) (.int .i64 y)).block g (own_ltk HB6.out.1 hg) (fun e => HGF.out g hg (show g = F from e).symm))
       have HB7 := Lib.hid (And.intro hrow HB6.out.2)
       clear hrow HB6
       obtain ⟨w91, hw⟩ : ∃ w91, w91 = w89.setCell ⟨F, 4, none⟩ (.int .i64 y) := ⟨_, rfl⟩
       have HP7 := Lib.hid (HP6.out.local HXF6.out.out (Nat.lt_of_lt_of_le HLO.out HWF.out) 4 (.int .i64 y))
       have HF7 := Lib.hid (HF6.out.local HWF.out 4 (.int .i64 y))
       have HXF7 : Hid (Loc w91 R90 F [.string (ofL x), .int .i64 ln, .slice A n c, .int .i64 rt, .int .i64 y]) := Lib.hid (by rw [hw]; exact HXF6.out.set 4 (.int .i64 y) (by simp))
       rw [← hw] at HP7 HF7 HB7 ⊢
       have HXC7 : Hid (Loc w91 R90 C [.string (ofL []), .int .i64 0, .slice none 0 0, .int .i64 0, .int .i64 0]) := Lib.hid (by rw [hw]; exact HXC6.out.keepsR (S := fun b => b = F) ((Keeps.refl (fun b => b = F) w89).setCell (p := ⟨F, 4, none⟩) (fun _ => rfl) _) HNCF.out)
       clear HP6 HF6 HXC6 HXF6 hw
       obtain ⟨q1, q2⟩ := pure_end HM.out
       subst q1
       subst q2
       have zF0 := HXF7.out.cells 0 _ rfl
       have zF1 := HXF7.out.cells 1 _ rfl
       have zF2 := HXF7.out.cells 2 _ rfl
       have zF3 := HXF7.out.cells 3 _ rfl
       have zF4 := HXF7.out.cells 4 _ rfl
       have zC0 := HXC7.out.cells 0 _ rfl
       have zC1 := HXC7.out.cells 1 _ rfl
       have zC2 := HXC7.out.cells 2 _ rfl
       have zC3 := HXC7.out.cells 3 _ rfl
       have zC4 := HXC7.out.cells 4 _ rfl
       have gC0 := HXC7.out.fz 0
       have gC1 := HXC7.out.fz 1
       have gC2 := HXC7.out.fz 2
       have gC3 := HXC7.out.fz 3
       have gC4 := HXC7.out.fz 4
       go_wp2_with fail
       (try simp only [Exit.inBlock, Exit.then])
       refine bodyPost_ret (v := .agg #[.string (ofL x), .int .i64 ln, .slice A n c, .int .i64 rt, .int .i64 y]) ?_ rfl ?_
       ·rw [results_cell1 rfl]
        go_simp
       clear zF0 zF1 zF2 zF3 zF4 zC0 zC1 zC2 zC3 zC4 gC0 gC1 gC2 gC3 gC4
       have hnl : n = (L).length := HNL.out
       have kz := fun j u => (Keeps.refl (fun b => b = C) w91).setCell (p := ⟨C, j, none⟩) (fun _ => rfl) u
       have ky := fun (w1 : World) (k1 : Keeps (fun b => b = C) w91 w1) j u => k1.setCell (p := ⟨C, j, none⟩) (fun _ => rfl) u
       have kk := ky _ (ky _ (ky _ (ky _ (ky _ (Keeps.refl (fun b => b = C) w91) 0 (.string (ofL x))) 1 (.int .i64 ln)) 2 (.slice A n c)) 3 (.int .i64 rt)) 4 (.int .i64 y)
       have hpl := HP7.out.keepR kk (fun b hr e => HXC7.out.out (e ▸ hr)) (fun b (e : b = C) => Nat.le_of_lt (Nat.lt_of_lt_of_le HLO.out (e.symm ▸ HWC.out)))
       have hfl : Fr R w R90 _ := ⟨HF7.out.1.trans (T := fun b => b = C) kk (fun x hx (e : x = C) => absurd (show w.heap.size ≤ x from e.symm ▸ HWC.out) (Nat.not_le.2 hx)), HF7.out.2⟩
       have hol := ownsRow_keep HB7.out.1 (fun g hg => kk.block g (own_ltk HB7.out.1 hg) (fun e => HGC.out g hg (show g = C from e).symm))
       exact ⟨A, c, by rw [hnl], own_len hnl hol, _, hpl, hfl, fun g hg => HB7.out.2 g ((own_blk _ _ _ _).trans hg)⟩
end Go.Proofs.YtbhpnioggpgbhaaGreatDoor
