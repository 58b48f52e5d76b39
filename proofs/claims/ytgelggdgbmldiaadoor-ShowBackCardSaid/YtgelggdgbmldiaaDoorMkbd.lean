/-
  Layer 2: the document's reader: function. Written by an AI agent.
-/
import Derived.Test.YtgelggdgbmldiaaDoorMkbc
namespace Go.Proofs.YtgelggdgbmldiaaDoor
open Go Go.RowKit Go.Shelf
set_option linter.unusedVariables false
set_option linter.unusedSimpArgs false
/-- The contract of function. -/
def RfnC (P : Nat) (src : ByteArray) (T : List Tok) (m : PM Fnc) : Prop :=
  ∀ (s : PS) (a : Fnc) (s1 : PS) (R : Nat → Prop) (w : World), m s = some (a, s1) → Red w P src T R s → Calls Tryd.prog 30 #[.pointer (some ⟨P, 0, none⟩)] w fun e w' => ∃ A c, e = .returned (.agg #[.string (ofL a.s), .int .i64 a.ln, .slice A a.ps.length c, .int .i64 a.ret, .int .i64 a.body]) ∧ (w'.ownsRow 0 59 2 (.slice A a.ps.length c) a.ps.length (flatP a.ps) ∧ ∃ R', Red w' P src T R' s1 ∧ Fr R w R' w' ∧ ∀ g, (Value.slice A a.ps.length c).ownBlock = some g → ¬ R' g ∧ w.heap.size ≤ g)
set_option maxRecDepth 100000 in
set_option maxHeartbeats 16000000 in
theorem rfunction_any {P : Nat} {src : ByteArray} {T : List Tok} {N : Nat} (hsz : src.size ≤ 1000) (hN : N ≤ 100000) (BL : RexC P src T 63 (rblockM src.data.toList T N (rstM src.data.toList T N N))) : RfnC P src T (rfunctionM src.data.toList T N) := by
  intro s fa s' R w h hp
  obtain ⟨ip, hip, hp0, hp1, hp2⟩ := info_parts info_param
  have HP0 := Lib.hid hp
  have HF0 := Lib.hid (Fr.refl R w)
  have HLO := Lib.hid hp.lo
  have HM := Lib.hid h
  clear h hp
  go_enter Tryd.func30, Tryd.ntmps30
  go_upto_region 1 with fail
  have ka := Keeps.one w (.cells #[.string { data := #[] }, .int .i64 0, .slice none 0 0, .int .i64 0, .int .i64 0] 36)
  obtain ⟨C, hC⟩ : ∃ C, C = w.heap.size := ⟨_, rfl⟩
  obtain ⟨w1, hw⟩ : ∃ w1, w1 = w.alloc (.cells #[.string { data := #[] }, .int .i64 0, .slice none 0 0, .int .i64 0, .int .i64 0] 36) := ⟨_, rfl⟩
  have HXC1 : Hid (Loc w1 R C [.string (ofL []), .int .i64 0, .slice none 0 0, .int .i64 0, .int .i64 0]) := Lib.hid (by rw [hw, hC]; exact Loc.new HP0.out.new [.string (ofL []), .int .i64 0, .slice none 0 0, .int .i64 0, .int .i64 0] 36)
  have HWC : Hid (w.heap.size ≤ C) := Lib.hid (by rw [hC]; exact HF0.out.1.size)
  rw [← hC]
  rw [← hw] at ka ⊢
  have HP1 := Lib.hid (HP0.out.keep ka)
  have HF1 := Lib.hid (HF0.out.keeps ka)
  clear HP0 HF0 ka hw hC
  obtain ⟨ln, hln, h⟩ := ask_out HM.out
  have LC := Lib.hid (rline_q hsz HP1.out hln)
  replace HM := Lib.hid h
  clear h hln
  go_wp2_with fail
  refine LC.out.mono ?_
  rintro e w2 ⟨rfl, k1⟩
  have HP2 := Lib.hid (HP1.out.keep k1)
  have HF2 := Lib.hid (HF1.out.keeps k1)
  have HXC2 := Lib.hid (HXC1.out.keeps k1)
  clear HP1 HF1 HXC1 LC k1 
  go_upto_region 2 with fail
  have ka := Keeps.one w2 (.cells #[.string { data := #[] }, .int .i64 ln, .slice none 0 0, .int .i64 0, .int .i64 0] 36)
  obtain ⟨F, hF⟩ : ∃ F, F = w2.heap.size := ⟨_, rfl⟩
  obtain ⟨w3, hw⟩ : ∃ w3, w3 = w2.alloc (.cells #[.string { data := #[] }, .int .i64 ln, .slice none 0 0, .int .i64 0, .int .i64 0] 36) := ⟨_, rfl⟩
  have HXF3 : Hid (Loc w3 R F [.string (ofL []), .int .i64 ln, .slice none 0 0, .int .i64 0, .int .i64 0]) := Lib.hid (by rw [hw, hF]; exact Loc.new HP2.out.new [.string (ofL []), .int .i64 ln, .slice none 0 0, .int .i64 0, .int .i64 0] 36)
  have HWF : Hid (w.heap.size ≤ F) := Lib.hid (by rw [hF]; exact HF2.out.1.size)
  rw [← hF]
  rw [← hw] at ka ⊢
  have HP3 := Lib.hid (HP2.out.keep ka)
  have HF3 := Lib.hid (HF2.out.keeps ka)
  have HXC3 := Lib.hid (HXC2.out.keeps ka)
  have HNFC : Hid (¬ F = C) := Lib.hid (fun e => by have := HXC2.out.lt; omega)
  have HNCF : Hid (¬ C = F) := Lib.hid (fun e => by have := HXC2.out.lt; omega)
  clear HP2 HF2 HXC2 ka hw hF
  obtain ⟨s4, e1, h⟩ := mod_out HM.out
  have NC := Lib.hid (must_q HP3.out ({ data := #[102, 110] }) e1)
  replace HM := Lib.hid h
  clear h e1
  go_wp2_with fail
  refine NC.out.mono ?_
  rintro e w5 ⟨rfl, R6, hp, hf⟩
  have HP4 := Lib.hid hp
  have HF4 := Lib.hid (HF3.out.trans hf)
  have HXC4 := Lib.hid (HXC3.out.keep hf)
  have HXF4 := Lib.hid (HXF3.out.keep hf)
  clear HP3 HF3 HXC3 HXF3 hp hf NC 
  obtain ⟨x, ex, h⟩ := ask_out HM.out
  obtain ⟨s7, e1, h⟩ := mod_out h
  have NC := Lib.hid (rname_q HP4.out e1 ex)
  replace HM := Lib.hid h
  clear h e1 ex
  go_wp2_with fail
  refine NC.out.mono ?_
  rintro e w8 ⟨rfl, R9, hp, hf⟩
  have HP5 := Lib.hid hp
  have HF5 := Lib.hid (HF4.out.trans hf)
  have HXC5 := Lib.hid (HXC4.out.keep hf)
  have HXF5 := Lib.hid (HXF4.out.keep hf)
  clear HP4 HF4 HXC4 HXF4 hp hf NC 
  have zF0 := HXF5.out.cells 0 _ rfl
  have gF0 := HXF5.out.fz 0
  go_upto_region 4 with fail
  clear zF0 gF0
  obtain ⟨w10, hw⟩ : ∃ w10, w10 = w8.setCell ⟨F, 0, none⟩ (.string (ofL x)) := ⟨_, rfl⟩
  have HP6 := Lib.hid (HP5.out.local HXF5.out.out (Nat.lt_of_lt_of_le HLO.out HWF.out) 0 (.string (ofL x)))
  have HF6 := Lib.hid (HF5.out.local HWF.out 0 (.string (ofL x)))
  have HXF6 : Hid (Loc w10 R9 F [.string (ofL x), .int .i64 ln, .slice none 0 0, .int .i64 0, .int .i64 0]) := Lib.hid (by rw [hw]; exact HXF5.out.set 0 (.string (ofL x)) (by simp))
  rw [← hw] at HP6 HF6  ⊢
  have HXC6 : Hid (Loc w10 R9 C [.string (ofL []), .int .i64 0, .slice none 0 0, .int .i64 0, .int .i64 0]) := Lib.hid (by rw [hw]; exact HXC5.out.keepsR (S := fun b => b = F) ((Keeps.refl (fun b => b = F) w8).setCell (p := ⟨F, 0, none⟩) (fun _ => rfl) _) HNCF.out)
  clear HP5 HF5 HXC5 HXF5 hw
  obtain ⟨s11, e1, h⟩ := mod_out HM.out
  have NC := Lib.hid (must_q HP6.out ({ data := #[40] }) e1)
  replace HM := Lib.hid h
  clear h e1
  go_wp2_with fail
  refine NC.out.mono ?_
  rintro e w12 ⟨rfl, R13, hp, hf⟩
  have HP7 := Lib.hid hp
  have HF7 := Lib.hid (HF6.out.trans hf)
  have HXC7 := Lib.hid (HXC6.out.keep hf)
  have HXF7 := Lib.hid (HXF6.out.keep hf)
  clear HP6 HF6 HXC6 HXF6 hp hf NC 
  obtain ⟨b, hb, h⟩ := ask_out HM.out
  obtain ⟨L, sL, hm, h⟩ := bind_out h
  have HB9 := Lib.hid hb
  have HA := Lib.hid hm
  replace HM := Lib.hid h
  clear h hm hb
  obtain ⟨b1, hb1⟩ : ∃ b1, b1 = isR T [41] s11 := ⟨_, rfl⟩
  have IC := Lib.hid (ris_q HP7.out ({ data := #[41] }) hb1)
  have HB1 := Lib.hid hb1
  clear hb1
  have HB7 : Hid (w12.ownsRow 0 59 2 (.slice none 0 0) 0 (flatP []) ∧ ∀ g, (Value.slice none 0 0).ownBlock = some g → ¬ R13 g ∧ w.heap.size ≤ g) := Lib.hid ⟨World.ownsRow_nil _ _ _ _, fun g hg => by simp [Value.ownBlock] at hg⟩
  have HGF : Hid (∀ g, (Value.slice none 0 0).ownBlock = some g → ¬ F = g) := Lib.hid (fun g hg => by simp [Value.ownBlock] at hg)
  have HGC : Hid (∀ g, (Value.slice none 0 0).ownBlock = some g → ¬ C = g) := Lib.hid (fun g hg => by simp [Value.ownBlock] at hg)
  cases b1 with
  | true =>
    go_wp2_with fail
    refine IC.out.mono ?_
    rintro e w14 ⟨rfl, k1⟩
    have HP8 := Lib.hid (HP7.out.keep k1)
    have HF8 := Lib.hid (HF7.out.keeps k1)
    have HXC8 := Lib.hid (HXC7.out.keeps k1)
    have HXF8 := Lib.hid (HXF7.out.keeps k1)
    have HB8 := Lib.hid (own_keepG HB7.out.1 ((Fr.refl R13 w12).keeps k1) HB7.out.2)
    clear HP7 HF7 HXC7 HXF7 HB7 IC k1 
    have hbf : b = false := by have := HB9.out; rw [show (isR T [41] s11) = true from HB1.out.symm] at this; rw [this]; rfl
    subst hbf
    clear HB9 HB1
    go_upto_region 7 with fail
    go_loopg [5, 6, 7] (N + 1) (fun k s5 s6 s7 wr => ∃ (more : Bool) (l : List (List UInt8 × Int)) (A : Option Addr) (n c : Nat) (sk : PS) (Rk : Nat → Prop), s5 = .bool more ∧ n = l.length ∧ n + k ≤ N + 1 ∧ (if more then rparamsR T (k - 1) l else pure l) sk = some (L, sL) ∧ Red wr P src T Rk sk ∧ Fr R w Rk wr ∧ Loc wr Rk C [.string (ofL []), .int .i64 0, .slice none 0 0, .int .i64 0, .int .i64 0] ∧ Loc wr Rk F [.string (ofL x), .int .i64 ln, .slice A n c, .int .i64 0, .int .i64 0] ∧ (wr.ownsRow 0 59 2 (.slice A n c) n (flatP l) ∧ ∀ g, (Value.slice A n c).ownBlock = some g → ¬ Rk g ∧ w.heap.size ≤ g) ∧ (∀ g, (Value.slice A n c).ownBlock = some g → ¬ F = g) ∧ ∀ g, (Value.slice A n c).ownBlock = some g → ¬ C = g)
    case atStart => exact ⟨_, [], none, 0, 0, _, _, rfl, rfl, by omega, HA.out, HP8.out, HF8.out, HXC8.out, HXF8.out, HB8.out, HGF.out, HGC.out⟩
    case round =>
      obtain ⟨more, l, A, n, c, sk, Rk, rfl, hnl, hnk, hm, hp, hf, hxc, hx, hb, hg, hgc⟩ := hrel
      clear HP8 HF8 HXC8 HXF8 HB8 HA HGF HGC
      have HP0 := Lib.hid hp
      have HF0 := Lib.hid hf
      have HXC0 := Lib.hid hxc
      have HXF0 := Lib.hid hx
      have HB0 := Lib.hid hb
      have HGF := Lib.hid hg
      have HGC := Lib.hid hgc
      have HNL := Lib.hid hnl
      have HNK := Lib.hid hnk
      have hn2 : n ≤ 100001 := by omega
      clear hp hf hx hxc hb hg hgc hnl hnk
      cases more with
      | false =>
        have hm2 : (pure l : PM (List (List UInt8 × Int))) sk = some (L, sL) := hm
        obtain ⟨q1, q2⟩ := pure_end hm2
        subst q1
        subst q2
        clear hm hm2
        go_upto_region 14 with fail
        obtain ⟨s15, e1, h⟩ := mod_out HM.out
        have NC := Lib.hid (must_q HP0.out ({ data := #[41] }) e1)
        replace HM := Lib.hid h
        clear h e1
        go_wp2_with fail
        refine NC.out.mono ?_
        rintro e w16 ⟨rfl, R17, hp, hf⟩
        have HP1 := Lib.hid hp
        have HF1 := Lib.hid (HF0.out.trans hf)
        have HXC1 := Lib.hid (HXC0.out.keep hf)
        have HXF1 := Lib.hid (HXF0.out.keep hf)
        have HB1 := Lib.hid (own_keepG HB0.out.1 hf HB0.out.2)
        clear HP0 HF0 HXC0 HXF0 HB0 hp hf NC 
        obtain ⟨b, hb, h⟩ := ask_out HM.out
        obtain ⟨rt, sR, hm, h⟩ := bind_out h
        have IC := Lib.hid (ris_q HP1.out ({ data := #[123] }) hb)
        have HA := Lib.hid hm
        replace HM := Lib.hid h
        clear h hm hb
        cases b with
        | true =>
          go_wp2_with fail
          refine IC.out.mono ?_
          rintro e w18 ⟨rfl, k1⟩
          have HP2 := Lib.hid (HP1.out.keep k1)
          have HF2 := Lib.hid (HF1.out.keeps k1)
          have HXC2 := Lib.hid (HXC1.out.keeps k1)
          have HXF2 := Lib.hid (HXF1.out.keeps k1)
          have HB2 := Lib.hid (own_keepG HB1.out.1 ((Fr.refl R17 w16).keeps k1) HB1.out.2)
          clear HP1 HF1 HXC1 HXF1 HB1 IC k1 
          have h := HA.out
          first | rw [if_pos rfl] at h | rw [if_pos trivial] at h
          obtain ⟨q1, q2⟩ := pure_end h
          subst q1
          subst q2
          clear HA h
          obtain ⟨y, s19, hm, h⟩ := bind_out HM.out
          have NC := Lib.hid (BL _ _ _ _ _ hm HP2.out)
          replace HM := Lib.hid h
          clear h hm
          go_wp2_with fail
          refine NC.out.mono ?_
          rintro e w20 ⟨rfl, R21, hp, hf⟩
          have HP3 := Lib.hid hp
          have HF3 := Lib.hid (HF2.out.trans hf)
          have HXC3 := Lib.hid (HXC2.out.keep hf)
          have HXF3 := Lib.hid (HXF2.out.keep hf)
          have HB3 := Lib.hid (own_keepG HB2.out.1 hf HB2.out.2)
          clear HP2 HF2 HXC2 HXF2 HB2 hp hf NC 
          have zF4 := HXF3.out.cells 4 _ rfl
          have gF4 := HXF3.out.fz 4
          go_upto_region 19 with fail
          clear zF4 gF4
          have hrow := ownsRow_keep HB3.out.1 (fun g hg => ((Keeps.refl (fun b => b = F) w20).setCell (p := ⟨F, 4, none⟩) (fun _ => rfl) (.int .i64 y)).block g (own_ltk HB3.out.1 hg) (fun e => HGF.out g hg (show g = F from e).symm))
          have HB4 := Lib.hid (And.intro hrow HB3.out.2)
          clear hrow HB3
          obtain ⟨w22, hw⟩ : ∃ w22, w22 = w20.setCell ⟨F, 4, none⟩ (.int .i64 y) := ⟨_, rfl⟩
          have HP4 := Lib.hid (HP3.out.local HXF3.out.out (Nat.lt_of_lt_of_le HLO.out HWF.out) 4 (.int .i64 y))
          have HF4 := Lib.hid (HF3.out.local HWF.out 4 (.int .i64 y))
          have HXF4 : Hid (Loc w22 R21 F [.string (ofL x), .int .i64 ln, .slice A n c, .int .i64 0, .int .i64 y]) := Lib.hid (by rw [hw]; exact HXF3.out.set 4 (.int .i64 y) (by simp))
          rw [← hw] at HP4 HF4 HB4 ⊢
          have HXC4 : Hid (Loc w22 R21 C [.string (ofL []), .int .i64 0, .slice none 0 0, .int .i64 0, .int .i64 0]) := Lib.hid (by rw [hw]; exact HXC3.out.keepsR (S := fun b => b = F) ((Keeps.refl (fun b => b = F) w20).setCell (p := ⟨F, 4, none⟩) (fun _ => rfl) _) HNCF.out)
          clear HP3 HF3 HXC3 HXF3 hw
          obtain ⟨q1, q2⟩ := pure_end HM.out
          subst q1
          subst q2
          have zF0 := HXF4.out.cells 0 _ rfl
          have zF1 := HXF4.out.cells 1 _ rfl
          have zF2 := HXF4.out.cells 2 _ rfl
          have zF3 := HXF4.out.cells 3 _ rfl
          have zF4 := HXF4.out.cells 4 _ rfl
          have zC0 := HXC4.out.cells 0 _ rfl
          have zC1 := HXC4.out.cells 1 _ rfl
          have zC2 := HXC4.out.cells 2 _ rfl
          have zC3 := HXC4.out.cells 3 _ rfl
          have zC4 := HXC4.out.cells 4 _ rfl
          have gC0 := HXC4.out.fz 0
          have gC1 := HXC4.out.fz 1
          have gC2 := HXC4.out.fz 2
          have gC3 := HXC4.out.fz 3
          have gC4 := HXC4.out.fz 4
          go_wp2_with fail
          (try simp only [Exit.inBlock, Exit.then])
          refine bodyPost_ret (v := .agg #[.string (ofL x), .int .i64 ln, .slice A n c, .int .i64 0, .int .i64 y]) ?_ rfl ?_
          · rw [results_cell1 rfl]
            go_simp
          clear zF0 zF1 zF2 zF3 zF4 zC0 zC1 zC2 zC3 zC4 gC0 gC1 gC2 gC3 gC4
          have hnl : n = (L).length := HNL.out
          have ky := fun (w1 : World) (k1 : Keeps (fun b => b = C) w22 w1) j u => k1.setCell (p := ⟨C, j, none⟩) (fun _ => rfl) u
          have kk := ky _ (ky _ (ky _ (ky _ (ky _ (Keeps.refl (fun b => b = C) w22) 0 (.string (ofL x))) 1 (.int .i64 ln)) 2 (.slice A n c)) 3 (.int .i64 0)) 4 (.int .i64 y)
          have hpl := HP4.out.keepR kk (fun b hr e => HXC4.out.out (e ▸ hr)) (fun b (e : b = C) => Nat.le_of_lt (Nat.lt_of_lt_of_le HLO.out (e.symm ▸ HWC.out)))
          have hfl : Fr R w R21 _ := ⟨HF4.out.1.trans (T := fun b => b = C) kk (fun x hx (e : x = C) => absurd (show w.heap.size ≤ x from e.symm ▸ HWC.out) (Nat.not_le.2 hx)), HF4.out.2⟩
          have hol := ownsRow_keep HB4.out.1 (fun g hg => kk.block g (own_ltk HB4.out.1 hg) (fun e => HGC.out g hg (show g = C from e).symm))
          exact ⟨A, c, by rw [hnl], own_len hnl hol, _, hpl, hfl, fun g hg => HB4.out.2 g ((own_blk _ _ _ _).trans hg)⟩
        | false =>
          go_wp2_with fail
          refine IC.out.mono ?_
          rintro e w23 ⟨rfl, k1⟩
          have HP2 := Lib.hid (HP1.out.keep k1)
          have HF2 := Lib.hid (HF1.out.keeps k1)
          have HXC2 := Lib.hid (HXC1.out.keeps k1)
          have HXF2 := Lib.hid (HXF1.out.keeps k1)
          have HB2 := Lib.hid (own_keepG HB1.out.1 ((Fr.refl R17 w16).keeps k1) HB1.out.2)
          clear HP1 HF1 HXC1 HXF1 HB1 IC k1 
          have h := HA.out
          first | rw [if_neg (show ¬ false = true by decide)] at h | rw [if_neg (show ¬ False by decide)] at h
          have NC := Lib.hid (typed_any _ _ _ _ _ h HP2.out)
          clear HA h
          go_wp2_with fail
          refine NC.out.mono ?_
          rintro e w24 ⟨rfl, R25, hp, hf⟩
          have HP3 := Lib.hid hp
          have HF3 := Lib.hid (HF2.out.trans hf)
          have HXC3 := Lib.hid (HXC2.out.keep hf)
          have HXF3 := Lib.hid (HXF2.out.keep hf)
          have HB3 := Lib.hid (own_keepG HB2.out.1 hf HB2.out.2)
          clear HP2 HF2 HXC2 HXF2 HB2 hp hf NC 
          have zF3 := HXF3.out.cells 3 _ rfl
          have gF3 := HXF3.out.fz 3
          go_upto_region 18 with fail
          clear zF3 gF3
          have hrow := ownsRow_keep HB3.out.1 (fun g hg => ((Keeps.refl (fun b => b = F) w24).setCell (p := ⟨F, 3, none⟩) (fun _ => rfl) (.int .i64 rt)).block g (own_ltk HB3.out.1 hg) (fun e => HGF.out g hg (show g = F from e).symm))
          have HB4 := Lib.hid (And.intro hrow HB3.out.2)
          clear hrow HB3
          obtain ⟨w26, hw⟩ : ∃ w26, w26 = w24.setCell ⟨F, 3, none⟩ (.int .i64 rt) := ⟨_, rfl⟩
          have HP4 := Lib.hid (HP3.out.local HXF3.out.out (Nat.lt_of_lt_of_le HLO.out HWF.out) 3 (.int .i64 rt))
          have HF4 := Lib.hid (HF3.out.local HWF.out 3 (.int .i64 rt))
          have HXF4 : Hid (Loc w26 R25 F [.string (ofL x), .int .i64 ln, .slice A n c, .int .i64 rt, .int .i64 0]) := Lib.hid (by rw [hw]; exact HXF3.out.set 3 (.int .i64 rt) (by simp))
          rw [← hw] at HP4 HF4 HB4 ⊢
          have HXC4 : Hid (Loc w26 R25 C [.string (ofL []), .int .i64 0, .slice none 0 0, .int .i64 0, .int .i64 0]) := Lib.hid (by rw [hw]; exact HXC3.out.keepsR (S := fun b => b = F) ((Keeps.refl (fun b => b = F) w24).setCell (p := ⟨F, 3, none⟩) (fun _ => rfl) _) HNCF.out)
          clear HP3 HF3 HXC3 HXF3 hw
          obtain ⟨y, s27, hm, h⟩ := bind_out HM.out
          have NC := Lib.hid (BL _ _ _ _ _ hm HP4.out)
          replace HM := Lib.hid h
          clear h hm
          go_wp2_with fail
          refine NC.out.mono ?_
          rintro e w28 ⟨rfl, R29, hp, hf⟩
          have HP5 := Lib.hid hp
          have HF5 := Lib.hid (HF4.out.trans hf)
          have HXC5 := Lib.hid (HXC4.out.keep hf)
          have HXF5 := Lib.hid (HXF4.out.keep hf)
          have HB5 := Lib.hid (own_keepG HB4.out.1 hf HB4.out.2)
          clear HP4 HF4 HXC4 HXF4 HB4 hp hf NC 
          have zF4 := HXF5.out.cells 4 _ rfl
          have gF4 := HXF5.out.fz 4
          go_upto_region 19 with fail
          clear zF4 gF4
          have hrow := ownsRow_keep HB5.out.1 (fun g hg => ((Keeps.refl (fun b => b = F) w28).setCell (p := ⟨F, 4, none⟩) (fun _ => rfl) (.int .i64 y)).block g (own_ltk HB5.out.1 hg) (fun e => HGF.out g hg (show g = F from e).symm))
          have HB6 := Lib.hid (And.intro hrow HB5.out.2)
          clear hrow HB5
          obtain ⟨w30, hw⟩ : ∃ w30, w30 = w28.setCell ⟨F, 4, none⟩ (.int .i64 y) := ⟨_, rfl⟩
          have HP6 := Lib.hid (HP5.out.local HXF5.out.out (Nat.lt_of_lt_of_le HLO.out HWF.out) 4 (.int .i64 y))
          have HF6 := Lib.hid (HF5.out.local HWF.out 4 (.int .i64 y))
          have HXF6 : Hid (Loc w30 R29 F [.string (ofL x), .int .i64 ln, .slice A n c, .int .i64 rt, .int .i64 y]) := Lib.hid (by rw [hw]; exact HXF5.out.set 4 (.int .i64 y) (by simp))
          rw [← hw] at HP6 HF6 HB6 ⊢
          have HXC6 : Hid (Loc w30 R29 C [.string (ofL []), .int .i64 0, .slice none 0 0, .int .i64 0, .int .i64 0]) := Lib.hid (by rw [hw]; exact HXC5.out.keepsR (S := fun b => b = F) ((Keeps.refl (fun b => b = F) w28).setCell (p := ⟨F, 4, none⟩) (fun _ => rfl) _) HNCF.out)
          clear HP5 HF5 HXC5 HXF5 hw
          obtain ⟨q1, q2⟩ := pure_end HM.out
          subst q1
          subst q2
          have zF0 := HXF6.out.cells 0 _ rfl
          have zF1 := HXF6.out.cells 1 _ rfl
          have zF2 := HXF6.out.cells 2 _ rfl
          have zF3 := HXF6.out.cells 3 _ rfl
          have zF4 := HXF6.out.cells 4 _ rfl
          have zC0 := HXC6.out.cells 0 _ rfl
          have zC1 := HXC6.out.cells 1 _ rfl
          have zC2 := HXC6.out.cells 2 _ rfl
          have zC3 := HXC6.out.cells 3 _ rfl
          have zC4 := HXC6.out.cells 4 _ rfl
          have gC0 := HXC6.out.fz 0
          have gC1 := HXC6.out.fz 1
          have gC2 := HXC6.out.fz 2
          have gC3 := HXC6.out.fz 3
          have gC4 := HXC6.out.fz 4
          go_wp2_with fail
          (try simp only [Exit.inBlock, Exit.then])
          refine bodyPost_ret (v := .agg #[.string (ofL x), .int .i64 ln, .slice A n c, .int .i64 rt, .int .i64 y]) ?_ rfl ?_
          · rw [results_cell1 rfl]
            go_simp
          clear zF0 zF1 zF2 zF3 zF4 zC0 zC1 zC2 zC3 zC4 gC0 gC1 gC2 gC3 gC4
          have hnl : n = (L).length := HNL.out
          have ky := fun (w1 : World) (k1 : Keeps (fun b => b = C) w30 w1) j u => k1.setCell (p := ⟨C, j, none⟩) (fun _ => rfl) u
          have kk := ky _ (ky _ (ky _ (ky _ (ky _ (Keeps.refl (fun b => b = C) w30) 0 (.string (ofL x))) 1 (.int .i64 ln)) 2 (.slice A n c)) 3 (.int .i64 rt)) 4 (.int .i64 y)
          have hpl := HP6.out.keepR kk (fun b hr e => HXC6.out.out (e ▸ hr)) (fun b (e : b = C) => Nat.le_of_lt (Nat.lt_of_lt_of_le HLO.out (e.symm ▸ HWC.out)))
          have hfl : Fr R w R29 _ := ⟨HF6.out.1.trans (T := fun b => b = C) kk (fun x hx (e : x = C) => absurd (show w.heap.size ≤ x from e.symm ▸ HWC.out) (Nat.not_le.2 hx)), HF6.out.2⟩
          have hol := ownsRow_keep HB6.out.1 (fun g hg => kk.block g (own_ltk HB6.out.1 hg) (fun e => HGC.out g hg (show g = C from e).symm))
          exact ⟨A, c, by rw [hnl], own_len hnl hol, _, hpl, hfl, fun g hg => HB6.out.2 g ((own_blk _ _ _ _).trans hg)⟩
      | true =>
        have hm2 : rparamsR T (gk - 1) l sk = some (L, sL) := hm
        clear hm
        obtain ⟨k, hk⟩ : ∃ k, gk - 1 = k + 1 := by
          rcases hgk : gk - 1 with _ | k
          · rw [hgk] at hm2
            cases hm2
          · exact ⟨k, rfl⟩
        rw [hk] at hm2
        have HKK := Lib.hid hk
        clear hk
        unfold rparamsR at hm2
        have HA := Lib.hid hm2
        clear hm2
        obtain ⟨x1, ex, h⟩ := ask_out HA.out
        obtain ⟨s31, e1, h⟩ := mod_out h
        have NC := Lib.hid (rname_q HP0.out e1 ex)
        replace HA := Lib.hid h
        clear h e1 ex
        go_wp2_with fail
        refine NC.out.mono ?_
        rintro e w32 ⟨rfl, R33, hp, hf⟩
        have HP1 := Lib.hid hp
        have HF1 := Lib.hid (HF0.out.trans hf)
        have HXC1 := Lib.hid (HXC0.out.keep hf)
        have HXF1 := Lib.hid (HXF0.out.keep hf)
        have HB1 := Lib.hid (own_keepG HB0.out.1 hf HB0.out.2)
        clear HP0 HF0 HXC0 HXF0 HB0 hp hf NC 
        obtain ⟨t1, s34, hm, h⟩ := bind_out HA.out
        have NC := Lib.hid (typed_any _ _ _ _ _ hm HP1.out)
        replace HA := Lib.hid h
        clear h hm
        go_wp2_with fail
        refine NC.out.mono ?_
        rintro e w35 ⟨rfl, R36, hp, hf⟩
        have HP2 := Lib.hid hp
        have HF2 := Lib.hid (HF1.out.trans hf)
        have HXC2 := Lib.hid (HXC1.out.keep hf)
        have HXF2 := Lib.hid (HXF1.out.keep hf)
        have HB2 := Lib.hid (own_keepG HB1.out.1 hf HB1.out.2)
        clear HP1 HF1 HXC1 HXF1 HB1 hp hf NC 
        have zF2 := HXF2.out.cells 2 _ rfl
        go_upto_region 11 with (at_builtin; refine wpList_append_atk rfl (.tmp 36) (.tmp 40) 34 rfl 0 59 ip _ 2 24 Tryd.underlying34 hip hp0 hp1 hp2 (by rfl) (by omega) (.slice A n c) n (flatP l) (by rfl) (ownsRow_keep HB2.out.1 (fun g hg => (Keeps.one w35 _).block g (own_ltk HB2.out.1 hg) (fun h => h))) ⟨w35.heap.size, 0, none⟩ 1 1 (PmV (x1, t1)) (by rfl) (by rfl) (newsG (PmV (x1, t1)) _) (PmV_one _) (by omega) (by omega) (Nat.zero_le _) ?_; intro v5 w37 h5 g5 b5; obtain ⟨A5, c5, rfl⟩ := own_formk h5; have hmm := own_moreR HP2.out HF2.out HLO.out HB2.out.2 (Keeps.one w35 (.cells #[.string (ofL x1), .int .i64 t1] 59)) g5 b5; have HP3 := Lib.hid hmm.1; have HF3 := Lib.hid hmm.2.1; have HB3 : Hid (w37.ownsRow 0 59 2 (.slice A5 (n + 1) c5) (n + 1) (flatP (l ++ [(x1, t1)])) ∧ ∀ g, (Value.slice A5 (n + 1) c5).ownBlock = some g → ¬ R36 g ∧ w.heap.size ≤ g) := Lib.hid ⟨by rw [flatP_more]; exact h5, hmm.2.2.1⟩; have HXC3 := Lib.hid (HXC2.out.keepsR hmm.2.2.2 (fun hv => HGC.out _ hv rfl)); have HXF3 := Lib.hid (HXF2.out.keepsR hmm.2.2.2 (fun hv => HGF.out _ hv rfl)); have HHC : Hid (∀ g, (Value.slice A5 (n + 1) c5).ownBlock = some g → ¬ C = g) := Lib.hid (row_out b5 (Nat.lt_of_lt_of_le HXC2.out.lt (Keeps.one w35 _).size) HGC.out); have HHF : Hid (∀ g, (Value.slice A5 (n + 1) c5).ownBlock = some g → ¬ F = g) := Lib.hid (row_out b5 (Nat.lt_of_lt_of_le HXF2.out.lt (Keeps.one w35 _).size) HGF.out); clear hmm h5 g5 b5 zF2 HP2 HF2 HXC2 HXF2 HB2; have zF2 := HXF3.out.cells 2 _ rfl; have gF2 := HXF3.out.fz 2)
        clear zF2 gF2
        have hrow := ownsRow_keep HB3.out.1 (fun g hg => ((Keeps.refl (fun b => b = F) w37).setCell (p := ⟨F, 2, none⟩) (fun _ => rfl) (.slice A5 (n + 1) c5)).block g (own_ltk HB3.out.1 hg) (fun e => HHF.out g hg (show g = F from e).symm))
        have HB4 := Lib.hid (And.intro hrow HB3.out.2)
        clear hrow HB3
        obtain ⟨w38, hw⟩ : ∃ w38, w38 = w37.setCell ⟨F, 2, none⟩ (.slice A5 (n + 1) c5) := ⟨_, rfl⟩
        have HP4 := Lib.hid (HP3.out.local HXF3.out.out (Nat.lt_of_lt_of_le HLO.out HWF.out) 2 (.slice A5 (n + 1) c5))
        have HF4 := Lib.hid (HF3.out.local HWF.out 2 (.slice A5 (n + 1) c5))
        have HXF4 : Hid (Loc w38 R36 F [.string (ofL x), .int .i64 ln, .slice A5 (n + 1) c5, .int .i64 0, .int .i64 0]) := Lib.hid (by rw [hw]; exact HXF3.out.set 2 (.slice A5 (n + 1) c5) (by simp))
        rw [← hw] at HP4 HF4 HB4 ⊢
        have HXC4 : Hid (Loc w38 R36 C [.string (ofL []), .int .i64 0, .slice none 0 0, .int .i64 0, .int .i64 0]) := Lib.hid (by rw [hw]; exact HXC3.out.keepsR (S := fun b => b = F) ((Keeps.refl (fun b => b = F) w37).setCell (p := ⟨F, 2, none⟩) (fun _ => rfl) _) HNCF.out)
        clear HP3 HF3 HXC3 HXF3 hw
        obtain ⟨b, hb, h⟩ := ask_out HA.out
        have IC := Lib.hid (ris_q HP4.out ({ data := #[44] }) hb)
        replace HA := Lib.hid h
        clear h hb
        cases b with
        | true =>
          have h := HA.out
          rw [if_pos rfl] at h
          replace HA := Lib.hid h
          clear h
          go_wp2_with fail
          refine IC.out.mono ?_
          rintro e w39 ⟨rfl, k1⟩
          have HP5 := Lib.hid (HP4.out.keep k1)
          have HF5 := Lib.hid (HF4.out.keeps k1)
          have HXC5 := Lib.hid (HXC4.out.keeps k1)
          have HXF5 := Lib.hid (HXF4.out.keeps k1)
          have HB5 := Lib.hid (own_keepG HB4.out.1 ((Fr.refl R36 w38).keeps k1) HB4.out.2)
          clear HP4 HF4 HXC4 HXF4 HB4 IC k1 
          go_upto_region 13 with fail
          obtain ⟨u, s40, hm, h⟩ := bind_out HA.out
          obtain ⟨hi, e1⟩ := go_out hm
          replace HA := Lib.hid h
          obtain ⟨ew, c2, f2, hp, hf⟩ := HP5.out.stepAt hi
          have HP6 : Hid (Red (w39.setCell ⟨P, 2, none⟩ (.int .i64 ((s34.i : Int) + 1))) P src T R36 s40) := Lib.hid (by rw [e1]; exact hp)
          have HF6 := Lib.hid (HF5.out.trans hf)
          have HXC6 := Lib.hid (HXC5.out.keep hf)
          have HXF6 := Lib.hid (HXF5.out.keep hf)
          have HB6 := Lib.hid (own_keepG HB5.out.1 hf HB5.out.2)
          clear h hm e1 hi hp hf HP5 HF5 HXC5 HXF5 HB5
          generalize (s34.i : Int) = ii at *
          go_wp2_with fail
          generalize w39.setCell ⟨P, 2, none⟩ (.int .i64 (ii + 1)) = w41 at *
          clear c2 f2 ew
          go_roundg (gk - 1)
          case measure => go_light; have := HKK.out; omega
          case rel => exact ⟨_, l ++ [(x1, t1)], _, n + 1, _, _, _, rfl, by rw [List.length_append, ← HNL.out]; rfl, by have := HNK.out; have := HKK.out; go_light; omega, by rw [if_pos rfl, show gk - 1 - 1 = k by have := HKK.out; omega]; exact HA.out, HP6.out, HF6.out, HXC6.out, HXF6.out, HB6.out, HHF.out, HHC.out⟩
        | false =>
          have h := HA.out
          rw [if_neg (by decide)] at h
          replace HA := Lib.hid h
          clear h
          go_wp2_with fail
          refine IC.out.mono ?_
          rintro e w42 ⟨rfl, k1⟩
          have HP5 := Lib.hid (HP4.out.keep k1)
          have HF5 := Lib.hid (HF4.out.keeps k1)
          have HXC5 := Lib.hid (HXC4.out.keeps k1)
          have HXF5 := Lib.hid (HXF4.out.keeps k1)
          have HB5 := Lib.hid (own_keepG HB4.out.1 ((Fr.refl R36 w38).keeps k1) HB4.out.2)
          clear HP4 HF4 HXC4 HXF4 HB4 IC k1 
          go_wp2_with fail
          go_roundg (gk - 1)
          case measure => go_light; have := HKK.out; omega
          case rel => exact ⟨_, l ++ [(x1, t1)], _, n + 1, _, _, _, rfl, by rw [List.length_append, ← HNL.out]; rfl, by have := HNK.out; have := HKK.out; go_light; omega, by rw [if_neg (by decide)]; exact HA.out, HP5.out, HF5.out, HXC5.out, HXF5.out, HB5.out, HHF.out, HHC.out⟩
  | false =>
    go_wp2_with fail
    refine IC.out.mono ?_
    rintro e w43 ⟨rfl, k1⟩
    have HP8 := Lib.hid (HP7.out.keep k1)
    have HF8 := Lib.hid (HF7.out.keeps k1)
    have HXC8 := Lib.hid (HXC7.out.keeps k1)
    have HXF8 := Lib.hid (HXF7.out.keeps k1)
    have HB8 := Lib.hid (own_keepG HB7.out.1 ((Fr.refl R13 w12).keeps k1) HB7.out.2)
    clear HP7 HF7 HXC7 HXF7 HB7 IC k1 
    have c5 := HP8.out.see.c5
    by_cases he : s11.er = 0
    · skip
      have hbt : b = true := by have := HB9.out; rw [show (isR T [41] s11) = false from HB1.out.symm, decide_eq_true he] at this; rw [this]; rfl
      subst hbt
      rw [he] at c5
      clear HB9 HB1 he
      go_upto_region 7 with fail
      clear c5
      go_loopg [5, 6, 7] (N + 1) (fun k s5 s6 s7 wr => ∃ (more : Bool) (l : List (List UInt8 × Int)) (A : Option Addr) (n c : Nat) (sk : PS) (Rk : Nat → Prop), s5 = .bool more ∧ n = l.length ∧ n + k ≤ N + 1 ∧ (if more then rparamsR T (k - 1) l else pure l) sk = some (L, sL) ∧ Red wr P src T Rk sk ∧ Fr R w Rk wr ∧ Loc wr Rk C [.string (ofL []), .int .i64 0, .slice none 0 0, .int .i64 0, .int .i64 0] ∧ Loc wr Rk F [.string (ofL x), .int .i64 ln, .slice A n c, .int .i64 0, .int .i64 0] ∧ (wr.ownsRow 0 59 2 (.slice A n c) n (flatP l) ∧ ∀ g, (Value.slice A n c).ownBlock = some g → ¬ Rk g ∧ w.heap.size ≤ g) ∧ (∀ g, (Value.slice A n c).ownBlock = some g → ¬ F = g) ∧ ∀ g, (Value.slice A n c).ownBlock = some g → ¬ C = g)
      case atStart => exact ⟨_, [], none, 0, 0, _, _, rfl, rfl, by omega, HA.out, HP8.out, HF8.out, HXC8.out, HXF8.out, HB8.out, HGF.out, HGC.out⟩
      case round =>
        obtain ⟨more, l, A, n, c, sk, Rk, rfl, hnl, hnk, hm, hp, hf, hxc, hx, hb, hg, hgc⟩ := hrel
        clear HP8 HF8 HXC8 HXF8 HB8 HA HGF HGC
        have HP0 := Lib.hid hp
        have HF0 := Lib.hid hf
        have HXC0 := Lib.hid hxc
        have HXF0 := Lib.hid hx
        have HB0 := Lib.hid hb
        have HGF := Lib.hid hg
        have HGC := Lib.hid hgc
        have HNL := Lib.hid hnl
        have HNK := Lib.hid hnk
        have hn2 : n ≤ 100001 := by omega
        clear hp hf hx hxc hb hg hgc hnl hnk
        cases more with
        | false =>
          have hm2 : (pure l : PM (List (List UInt8 × Int))) sk = some (L, sL) := hm
          obtain ⟨q1, q2⟩ := pure_end hm2
          subst q1
          subst q2
          clear hm hm2
          go_upto_region 14 with fail
          obtain ⟨s44, e1, h⟩ := mod_out HM.out
          have NC := Lib.hid (must_q HP0.out ({ data := #[41] }) e1)
          replace HM := Lib.hid h
          clear h e1
          go_wp2_with fail
          refine NC.out.mono ?_
          rintro e w45 ⟨rfl, R46, hp, hf⟩
          have HP1 := Lib.hid hp
          have HF1 := Lib.hid (HF0.out.trans hf)
          have HXC1 := Lib.hid (HXC0.out.keep hf)
          have HXF1 := Lib.hid (HXF0.out.keep hf)
          have HB1 := Lib.hid (own_keepG HB0.out.1 hf HB0.out.2)
          clear HP0 HF0 HXC0 HXF0 HB0 hp hf NC 
          obtain ⟨b, hb, h⟩ := ask_out HM.out
          obtain ⟨rt, sR, hm, h⟩ := bind_out h
          have IC := Lib.hid (ris_q HP1.out ({ data := #[123] }) hb)
          have HA := Lib.hid hm
          replace HM := Lib.hid h
          clear h hm hb
          cases b with
          | true =>
            go_wp2_with fail
            refine IC.out.mono ?_
            rintro e w47 ⟨rfl, k1⟩
            have HP2 := Lib.hid (HP1.out.keep k1)
            have HF2 := Lib.hid (HF1.out.keeps k1)
            have HXC2 := Lib.hid (HXC1.out.keeps k1)
            have HXF2 := Lib.hid (HXF1.out.keeps k1)
            have HB2 := Lib.hid (own_keepG HB1.out.1 ((Fr.refl R46 w45).keeps k1) HB1.out.2)
            clear HP1 HF1 HXC1 HXF1 HB1 IC k1 
            have h := HA.out
            first | rw [if_pos rfl] at h | rw [if_pos trivial] at h
            obtain ⟨q1, q2⟩ := pure_end h
            subst q1
            subst q2
            clear HA h
            obtain ⟨y, s48, hm, h⟩ := bind_out HM.out
            have NC := Lib.hid (BL _ _ _ _ _ hm HP2.out)
            replace HM := Lib.hid h
            clear h hm
            go_wp2_with fail
            refine NC.out.mono ?_
            rintro e w49 ⟨rfl, R50, hp, hf⟩
            have HP3 := Lib.hid hp
            have HF3 := Lib.hid (HF2.out.trans hf)
            have HXC3 := Lib.hid (HXC2.out.keep hf)
            have HXF3 := Lib.hid (HXF2.out.keep hf)
            have HB3 := Lib.hid (own_keepG HB2.out.1 hf HB2.out.2)
            clear HP2 HF2 HXC2 HXF2 HB2 hp hf NC 
            have zF4 := HXF3.out.cells 4 _ rfl
            have gF4 := HXF3.out.fz 4
            go_upto_region 19 with fail
            clear zF4 gF4
            have hrow := ownsRow_keep HB3.out.1 (fun g hg => ((Keeps.refl (fun b => b = F) w49).setCell (p := ⟨F, 4, none⟩) (fun _ => rfl) (.int .i64 y)).block g (own_ltk HB3.out.1 hg) (fun e => HGF.out g hg (show g = F from e).symm))
            have HB4 := Lib.hid (And.intro hrow HB3.out.2)
            clear hrow HB3
            obtain ⟨w51, hw⟩ : ∃ w51, w51 = w49.setCell ⟨F, 4, none⟩ (.int .i64 y) := ⟨_, rfl⟩
            have HP4 := Lib.hid (HP3.out.local HXF3.out.out (Nat.lt_of_lt_of_le HLO.out HWF.out) 4 (.int .i64 y))
            have HF4 := Lib.hid (HF3.out.local HWF.out 4 (.int .i64 y))
            have HXF4 : Hid (Loc w51 R50 F [.string (ofL x), .int .i64 ln, .slice A n c, .int .i64 0, .int .i64 y]) := Lib.hid (by rw [hw]; exact HXF3.out.set 4 (.int .i64 y) (by simp))
            rw [← hw] at HP4 HF4 HB4 ⊢
            have HXC4 : Hid (Loc w51 R50 C [.string (ofL []), .int .i64 0, .slice none 0 0, .int .i64 0, .int .i64 0]) := Lib.hid (by rw [hw]; exact HXC3.out.keepsR (S := fun b => b = F) ((Keeps.refl (fun b => b = F) w49).setCell (p := ⟨F, 4, none⟩) (fun _ => rfl) _) HNCF.out)
            clear HP3 HF3 HXC3 HXF3 hw
            obtain ⟨q1, q2⟩ := pure_end HM.out
            subst q1
            subst q2
            have zF0 := HXF4.out.cells 0 _ rfl
            have zF1 := HXF4.out.cells 1 _ rfl
            have zF2 := HXF4.out.cells 2 _ rfl
            have zF3 := HXF4.out.cells 3 _ rfl
            have zF4 := HXF4.out.cells 4 _ rfl
            have zC0 := HXC4.out.cells 0 _ rfl
            have zC1 := HXC4.out.cells 1 _ rfl
            have zC2 := HXC4.out.cells 2 _ rfl
            have zC3 := HXC4.out.cells 3 _ rfl
            have zC4 := HXC4.out.cells 4 _ rfl
            have gC0 := HXC4.out.fz 0
            have gC1 := HXC4.out.fz 1
            have gC2 := HXC4.out.fz 2
            have gC3 := HXC4.out.fz 3
            have gC4 := HXC4.out.fz 4
            go_wp2_with fail
            (try simp only [Exit.inBlock, Exit.then])
            refine bodyPost_ret (v := .agg #[.string (ofL x), .int .i64 ln, .slice A n c, .int .i64 0, .int .i64 y]) ?_ rfl ?_
            · rw [results_cell1 rfl]
              go_simp
            clear zF0 zF1 zF2 zF3 zF4 zC0 zC1 zC2 zC3 zC4 gC0 gC1 gC2 gC3 gC4
            have hnl : n = (L).length := HNL.out
            have ky := fun (w1 : World) (k1 : Keeps (fun b => b = C) w51 w1) j u => k1.setCell (p := ⟨C, j, none⟩) (fun _ => rfl) u
            have kk := ky _ (ky _ (ky _ (ky _ (ky _ (Keeps.refl (fun b => b = C) w51) 0 (.string (ofL x))) 1 (.int .i64 ln)) 2 (.slice A n c)) 3 (.int .i64 0)) 4 (.int .i64 y)
            have hpl := HP4.out.keepR kk (fun b hr e => HXC4.out.out (e ▸ hr)) (fun b (e : b = C) => Nat.le_of_lt (Nat.lt_of_lt_of_le HLO.out (e.symm ▸ HWC.out)))
            have hfl : Fr R w R50 _ := ⟨HF4.out.1.trans (T := fun b => b = C) kk (fun x hx (e : x = C) => absurd (show w.heap.size ≤ x from e.symm ▸ HWC.out) (Nat.not_le.2 hx)), HF4.out.2⟩
            have hol := ownsRow_keep HB4.out.1 (fun g hg => kk.block g (own_ltk HB4.out.1 hg) (fun e => HGC.out g hg (show g = C from e).symm))
            exact ⟨A, c, by rw [hnl], own_len hnl hol, _, hpl, hfl, fun g hg => HB4.out.2 g ((own_blk _ _ _ _).trans hg)⟩
          | false =>
            go_wp2_with fail
            refine IC.out.mono ?_
            rintro e w52 ⟨rfl, k1⟩
            have HP2 := Lib.hid (HP1.out.keep k1)
            have HF2 := Lib.hid (HF1.out.keeps k1)
            have HXC2 := Lib.hid (HXC1.out.keeps k1)
            have HXF2 := Lib.hid (HXF1.out.keeps k1)
            have HB2 := Lib.hid (own_keepG HB1.out.1 ((Fr.refl R46 w45).keeps k1) HB1.out.2)
            clear HP1 HF1 HXC1 HXF1 HB1 IC k1 
            have h := HA.out
            first | rw [if_neg (show ¬ false = true by decide)] at h | rw [if_neg (show ¬ False by decide)] at h
            have NC := Lib.hid (typed_any _ _ _ _ _ h HP2.out)
            clear HA h
            go_wp2_with fail
            refine NC.out.mono ?_
            rintro e w53 ⟨rfl, R54, hp, hf⟩
            have HP3 := Lib.hid hp
            have HF3 := Lib.hid (HF2.out.trans hf)
            have HXC3 := Lib.hid (HXC2.out.keep hf)
            have HXF3 := Lib.hid (HXF2.out.keep hf)
            have HB3 := Lib.hid (own_keepG HB2.out.1 hf HB2.out.2)
            clear HP2 HF2 HXC2 HXF2 HB2 hp hf NC 
            have zF3 := HXF3.out.cells 3 _ rfl
            have gF3 := HXF3.out.fz 3
            go_upto_region 18 with fail
            clear zF3 gF3
            have hrow := ownsRow_keep HB3.out.1 (fun g hg => ((Keeps.refl (fun b => b = F) w53).setCell (p := ⟨F, 3, none⟩) (fun _ => rfl) (.int .i64 rt)).block g (own_ltk HB3.out.1 hg) (fun e => HGF.out g hg (show g = F from e).symm))
            have HB4 := Lib.hid (And.intro hrow HB3.out.2)
            clear hrow HB3
            obtain ⟨w55, hw⟩ : ∃ w55, w55 = w53.setCell ⟨F, 3, none⟩ (.int .i64 rt) := ⟨_, rfl⟩
            have HP4 := Lib.hid (HP3.out.local HXF3.out.out (Nat.lt_of_lt_of_le HLO.out HWF.out) 3 (.int .i64 rt))
            have HF4 := Lib.hid (HF3.out.local HWF.out 3 (.int .i64 rt))
            have HXF4 : Hid (Loc w55 R54 F [.string (ofL x), .int .i64 ln, .slice A n c, .int .i64 rt, .int .i64 0]) := Lib.hid (by rw [hw]; exact HXF3.out.set 3 (.int .i64 rt) (by simp))
            rw [← hw] at HP4 HF4 HB4 ⊢
            have HXC4 : Hid (Loc w55 R54 C [.string (ofL []), .int .i64 0, .slice none 0 0, .int .i64 0, .int .i64 0]) := Lib.hid (by rw [hw]; exact HXC3.out.keepsR (S := fun b => b = F) ((Keeps.refl (fun b => b = F) w53).setCell (p := ⟨F, 3, none⟩) (fun _ => rfl) _) HNCF.out)
            clear HP3 HF3 HXC3 HXF3 hw
            obtain ⟨y, s56, hm, h⟩ := bind_out HM.out
            have NC := Lib.hid (BL _ _ _ _ _ hm HP4.out)
            replace HM := Lib.hid h
            clear h hm
            go_wp2_with fail
            refine NC.out.mono ?_
            rintro e w57 ⟨rfl, R58, hp, hf⟩
            have HP5 := Lib.hid hp
            have HF5 := Lib.hid (HF4.out.trans hf)
            have HXC5 := Lib.hid (HXC4.out.keep hf)
            have HXF5 := Lib.hid (HXF4.out.keep hf)
            have HB5 := Lib.hid (own_keepG HB4.out.1 hf HB4.out.2)
            clear HP4 HF4 HXC4 HXF4 HB4 hp hf NC 
            have zF4 := HXF5.out.cells 4 _ rfl
            have gF4 := HXF5.out.fz 4
            go_upto_region 19 with fail
            clear zF4 gF4
            have hrow := ownsRow_keep HB5.out.1 (fun g hg => ((Keeps.refl (fun b => b = F) w57).setCell (p := ⟨F, 4, none⟩) (fun _ => rfl) (.int .i64 y)).block g (own_ltk HB5.out.1 hg) (fun e => HGF.out g hg (show g = F from e).symm))
            have HB6 := Lib.hid (And.intro hrow HB5.out.2)
            clear hrow HB5
            obtain ⟨w59, hw⟩ : ∃ w59, w59 = w57.setCell ⟨F, 4, none⟩ (.int .i64 y) := ⟨_, rfl⟩
            have HP6 := Lib.hid (HP5.out.local HXF5.out.out (Nat.lt_of_lt_of_le HLO.out HWF.out) 4 (.int .i64 y))
            have HF6 := Lib.hid (HF5.out.local HWF.out 4 (.int .i64 y))
            have HXF6 : Hid (Loc w59 R58 F [.string (ofL x), .int .i64 ln, .slice A n c, .int .i64 rt, .int .i64 y]) := Lib.hid (by rw [hw]; exact HXF5.out.set 4 (.int .i64 y) (by simp))
            rw [← hw] at HP6 HF6 HB6 ⊢
            have HXC6 : Hid (Loc w59 R58 C [.string (ofL []), .int .i64 0, .slice none 0 0, .int .i64 0, .int .i64 0]) := Lib.hid (by rw [hw]; exact HXC5.out.keepsR (S := fun b => b = F) ((Keeps.refl (fun b => b = F) w57).setCell (p := ⟨F, 4, none⟩) (fun _ => rfl) _) HNCF.out)
            clear HP5 HF5 HXC5 HXF5 hw
            obtain ⟨q1, q2⟩ := pure_end HM.out
            subst q1
            subst q2
            have zF0 := HXF6.out.cells 0 _ rfl
            have zF1 := HXF6.out.cells 1 _ rfl
            have zF2 := HXF6.out.cells 2 _ rfl
            have zF3 := HXF6.out.cells 3 _ rfl
            have zF4 := HXF6.out.cells 4 _ rfl
            have zC0 := HXC6.out.cells 0 _ rfl
            have zC1 := HXC6.out.cells 1 _ rfl
            have zC2 := HXC6.out.cells 2 _ rfl
            have zC3 := HXC6.out.cells 3 _ rfl
            have zC4 := HXC6.out.cells 4 _ rfl
            have gC0 := HXC6.out.fz 0
            have gC1 := HXC6.out.fz 1
            have gC2 := HXC6.out.fz 2
            have gC3 := HXC6.out.fz 3
            have gC4 := HXC6.out.fz 4
            go_wp2_with fail
            (try simp only [Exit.inBlock, Exit.then])
            refine bodyPost_ret (v := .agg #[.string (ofL x), .int .i64 ln, .slice A n c, .int .i64 rt, .int .i64 y]) ?_ rfl ?_
            · rw [results_cell1 rfl]
              go_simp
            clear zF0 zF1 zF2 zF3 zF4 zC0 zC1 zC2 zC3 zC4 gC0 gC1 gC2 gC3 gC4
            have hnl : n = (L).length := HNL.out
            have ky := fun (w1 : World) (k1 : Keeps (fun b => b = C) w59 w1) j u => k1.setCell (p := ⟨C, j, none⟩) (fun _ => rfl) u
            have kk := ky _ (ky _ (ky _ (ky _ (ky _ (Keeps.refl (fun b => b = C) w59) 0 (.string (ofL x))) 1 (.int .i64 ln)) 2 (.slice A n c)) 3 (.int .i64 rt)) 4 (.int .i64 y)
            have hpl := HP6.out.keepR kk (fun b hr e => HXC6.out.out (e ▸ hr)) (fun b (e : b = C) => Nat.le_of_lt (Nat.lt_of_lt_of_le HLO.out (e.symm ▸ HWC.out)))
            have hfl : Fr R w R58 _ := ⟨HF6.out.1.trans (T := fun b => b = C) kk (fun x hx (e : x = C) => absurd (show w.heap.size ≤ x from e.symm ▸ HWC.out) (Nat.not_le.2 hx)), HF6.out.2⟩
            have hol := ownsRow_keep HB6.out.1 (fun g hg => kk.block g (own_ltk HB6.out.1 hg) (fun e => HGC.out g hg (show g = C from e).symm))
            exact ⟨A, c, by rw [hnl], own_len hnl hol, _, hpl, hfl, fun g hg => HB6.out.2 g ((own_blk _ _ _ _).trans hg)⟩
        | true =>
          have hm2 : rparamsR T (gk - 1) l sk = some (L, sL) := hm
          clear hm
          obtain ⟨k, hk⟩ : ∃ k, gk - 1 = k + 1 := by
            rcases hgk : gk - 1 with _ | k
            · rw [hgk] at hm2
              cases hm2
            · exact ⟨k, rfl⟩
          rw [hk] at hm2
          have HKK := Lib.hid hk
          clear hk
          unfold rparamsR at hm2
          have HA := Lib.hid hm2
          clear hm2
          obtain ⟨x1, ex, h⟩ := ask_out HA.out
          obtain ⟨s60, e1, h⟩ := mod_out h
          have NC := Lib.hid (rname_q HP0.out e1 ex)
          replace HA := Lib.hid h
          clear h e1 ex
          go_wp2_with fail
          refine NC.out.mono ?_
          rintro e w61 ⟨rfl, R62, hp, hf⟩
          have HP1 := Lib.hid hp
          have HF1 := Lib.hid (HF0.out.trans hf)
          have HXC1 := Lib.hid (HXC0.out.keep hf)
          have HXF1 := Lib.hid (HXF0.out.keep hf)
          have HB1 := Lib.hid (own_keepG HB0.out.1 hf HB0.out.2)
          clear HP0 HF0 HXC0 HXF0 HB0 hp hf NC 
          obtain ⟨t1, s63, hm, h⟩ := bind_out HA.out
          have NC := Lib.hid (typed_any _ _ _ _ _ hm HP1.out)
          replace HA := Lib.hid h
          clear h hm
          go_wp2_with fail
          refine NC.out.mono ?_
          rintro e w64 ⟨rfl, R65, hp, hf⟩
          have HP2 := Lib.hid hp
          have HF2 := Lib.hid (HF1.out.trans hf)
          have HXC2 := Lib.hid (HXC1.out.keep hf)
          have HXF2 := Lib.hid (HXF1.out.keep hf)
          have HB2 := Lib.hid (own_keepG HB1.out.1 hf HB1.out.2)
          clear HP1 HF1 HXC1 HXF1 HB1 hp hf NC 
          have zF2 := HXF2.out.cells 2 _ rfl
          go_upto_region 11 with (at_builtin; refine wpList_append_atk rfl (.tmp 36) (.tmp 40) 34 rfl 0 59 ip _ 2 24 Tryd.underlying34 hip hp0 hp1 hp2 (by rfl) (by omega) (.slice A n c) n (flatP l) (by rfl) (ownsRow_keep HB2.out.1 (fun g hg => (Keeps.one w64 _).block g (own_ltk HB2.out.1 hg) (fun h => h))) ⟨w64.heap.size, 0, none⟩ 1 1 (PmV (x1, t1)) (by rfl) (by rfl) (newsG (PmV (x1, t1)) _) (PmV_one _) (by omega) (by omega) (Nat.zero_le _) ?_; intro v5 w66 h5 g5 b5; obtain ⟨A5, c5, rfl⟩ := own_formk h5; have hmm := own_moreR HP2.out HF2.out HLO.out HB2.out.2 (Keeps.one w64 (.cells #[.string (ofL x1), .int .i64 t1] 59)) g5 b5; have HP3 := Lib.hid hmm.1; have HF3 := Lib.hid hmm.2.1; have HB3 : Hid (w66.ownsRow 0 59 2 (.slice A5 (n + 1) c5) (n + 1) (flatP (l ++ [(x1, t1)])) ∧ ∀ g, (Value.slice A5 (n + 1) c5).ownBlock = some g → ¬ R65 g ∧ w.heap.size ≤ g) := Lib.hid ⟨by rw [flatP_more]; exact h5, hmm.2.2.1⟩; have HXC3 := Lib.hid (HXC2.out.keepsR hmm.2.2.2 (fun hv => HGC.out _ hv rfl)); have HXF3 := Lib.hid (HXF2.out.keepsR hmm.2.2.2 (fun hv => HGF.out _ hv rfl)); have HHC : Hid (∀ g, (Value.slice A5 (n + 1) c5).ownBlock = some g → ¬ C = g) := Lib.hid (row_out b5 (Nat.lt_of_lt_of_le HXC2.out.lt (Keeps.one w64 _).size) HGC.out); have HHF : Hid (∀ g, (Value.slice A5 (n + 1) c5).ownBlock = some g → ¬ F = g) := Lib.hid (row_out b5 (Nat.lt_of_lt_of_le HXF2.out.lt (Keeps.one w64 _).size) HGF.out); clear hmm h5 g5 b5 zF2 HP2 HF2 HXC2 HXF2 HB2; have zF2 := HXF3.out.cells 2 _ rfl; have gF2 := HXF3.out.fz 2)
          clear zF2 gF2
          have hrow := ownsRow_keep HB3.out.1 (fun g hg => ((Keeps.refl (fun b => b = F) w66).setCell (p := ⟨F, 2, none⟩) (fun _ => rfl) (.slice A5 (n + 1) c5)).block g (own_ltk HB3.out.1 hg) (fun e => HHF.out g hg (show g = F from e).symm))
          have HB4 := Lib.hid (And.intro hrow HB3.out.2)
          clear hrow HB3
          obtain ⟨w67, hw⟩ : ∃ w67, w67 = w66.setCell ⟨F, 2, none⟩ (.slice A5 (n + 1) c5) := ⟨_, rfl⟩
          have HP4 := Lib.hid (HP3.out.local HXF3.out.out (Nat.lt_of_lt_of_le HLO.out HWF.out) 2 (.slice A5 (n + 1) c5))
          have HF4 := Lib.hid (HF3.out.local HWF.out 2 (.slice A5 (n + 1) c5))
          have HXF4 : Hid (Loc w67 R65 F [.string (ofL x), .int .i64 ln, .slice A5 (n + 1) c5, .int .i64 0, .int .i64 0]) := Lib.hid (by rw [hw]; exact HXF3.out.set 2 (.slice A5 (n + 1) c5) (by simp))
          rw [← hw] at HP4 HF4 HB4 ⊢
          have HXC4 : Hid (Loc w67 R65 C [.string (ofL []), .int .i64 0, .slice none 0 0, .int .i64 0, .int .i64 0]) := Lib.hid (by rw [hw]; exact HXC3.out.keepsR (S := fun b => b = F) ((Keeps.refl (fun b => b = F) w66).setCell (p := ⟨F, 2, none⟩) (fun _ => rfl) _) HNCF.out)
          clear HP3 HF3 HXC3 HXF3 hw
          obtain ⟨b, hb, h⟩ := ask_out HA.out
          have IC := Lib.hid (ris_q HP4.out ({ data := #[44] }) hb)
          replace HA := Lib.hid h
          clear h hb
          cases b with
          | true =>
            have h := HA.out
            rw [if_pos rfl] at h
            replace HA := Lib.hid h
            clear h
            go_wp2_with fail
            refine IC.out.mono ?_
            rintro e w68 ⟨rfl, k1⟩
            have HP5 := Lib.hid (HP4.out.keep k1)
            have HF5 := Lib.hid (HF4.out.keeps k1)
            have HXC5 := Lib.hid (HXC4.out.keeps k1)
            have HXF5 := Lib.hid (HXF4.out.keeps k1)
            have HB5 := Lib.hid (own_keepG HB4.out.1 ((Fr.refl R65 w67).keeps k1) HB4.out.2)
            clear HP4 HF4 HXC4 HXF4 HB4 IC k1 
            go_upto_region 13 with fail
            obtain ⟨u, s69, hm, h⟩ := bind_out HA.out
            obtain ⟨hi, e1⟩ := go_out hm
            replace HA := Lib.hid h
            obtain ⟨ew, c2, f2, hp, hf⟩ := HP5.out.stepAt hi
            have HP6 : Hid (Red (w68.setCell ⟨P, 2, none⟩ (.int .i64 ((s63.i : Int) + 1))) P src T R65 s69) := Lib.hid (by rw [e1]; exact hp)
            have HF6 := Lib.hid (HF5.out.trans hf)
            have HXC6 := Lib.hid (HXC5.out.keep hf)
            have HXF6 := Lib.hid (HXF5.out.keep hf)
            have HB6 := Lib.hid (own_keepG HB5.out.1 hf HB5.out.2)
            clear h hm e1 hi hp hf HP5 HF5 HXC5 HXF5 HB5
            generalize (s63.i : Int) = ii at *
            go_wp2_with fail
            generalize w68.setCell ⟨P, 2, none⟩ (.int .i64 (ii + 1)) = w70 at *
            clear c2 f2 ew
            go_roundg (gk - 1)
            case measure => go_light; have := HKK.out; omega
            case rel => exact ⟨_, l ++ [(x1, t1)], _, n + 1, _, _, _, rfl, by rw [List.length_append, ← HNL.out]; rfl, by have := HNK.out; have := HKK.out; go_light; omega, by rw [if_pos rfl, show gk - 1 - 1 = k by have := HKK.out; omega]; exact HA.out, HP6.out, HF6.out, HXC6.out, HXF6.out, HB6.out, HHF.out, HHC.out⟩
          | false =>
            have h := HA.out
            rw [if_neg (by decide)] at h
            replace HA := Lib.hid h
            clear h
            go_wp2_with fail
            refine IC.out.mono ?_
            rintro e w71 ⟨rfl, k1⟩
            have HP5 := Lib.hid (HP4.out.keep k1)
            have HF5 := Lib.hid (HF4.out.keeps k1)
            have HXC5 := Lib.hid (HXC4.out.keeps k1)
            have HXF5 := Lib.hid (HXF4.out.keeps k1)
            have HB5 := Lib.hid (own_keepG HB4.out.1 ((Fr.refl R65 w67).keeps k1) HB4.out.2)
            clear HP4 HF4 HXC4 HXF4 HB4 IC k1 
            go_wp2_with fail
            go_roundg (gk - 1)
            case measure => go_light; have := HKK.out; omega
            case rel => exact ⟨_, l ++ [(x1, t1)], _, n + 1, _, _, _, rfl, by rw [List.length_append, ← HNL.out]; rfl, by have := HNK.out; have := HKK.out; go_light; omega, by rw [if_neg (by decide)]; exact HA.out, HP5.out, HF5.out, HXC5.out, HXF5.out, HB5.out, HHF.out, HHC.out⟩
    · skip
      have hbf : b = false := by have := HB9.out; rw [show (isR T [41] s11) = false from HB1.out.symm, decide_eq_false he] at this; rw [this]; rfl
      subst hbf
      have hne : ((s11.er : Int) == 0) = false := by simp; omega
      generalize (s11.er : Int) = er at *
      clear HB9 HB1 he
      go_upto_region 7 with fail
      clear c5 hne
      go_loopg [5, 6, 7] (N + 1) (fun k s5 s6 s7 wr => ∃ (more : Bool) (l : List (List UInt8 × Int)) (A : Option Addr) (n c : Nat) (sk : PS) (Rk : Nat → Prop), s5 = .bool more ∧ n = l.length ∧ n + k ≤ N + 1 ∧ (if more then rparamsR T (k - 1) l else pure l) sk = some (L, sL) ∧ Red wr P src T Rk sk ∧ Fr R w Rk wr ∧ Loc wr Rk C [.string (ofL []), .int .i64 0, .slice none 0 0, .int .i64 0, .int .i64 0] ∧ Loc wr Rk F [.string (ofL x), .int .i64 ln, .slice A n c, .int .i64 0, .int .i64 0] ∧ (wr.ownsRow 0 59 2 (.slice A n c) n (flatP l) ∧ ∀ g, (Value.slice A n c).ownBlock = some g → ¬ Rk g ∧ w.heap.size ≤ g) ∧ (∀ g, (Value.slice A n c).ownBlock = some g → ¬ F = g) ∧ ∀ g, (Value.slice A n c).ownBlock = some g → ¬ C = g)
      case atStart => exact ⟨_, [], none, 0, 0, _, _, rfl, rfl, by omega, HA.out, HP8.out, HF8.out, HXC8.out, HXF8.out, HB8.out, HGF.out, HGC.out⟩
      case round =>
        obtain ⟨more, l, A, n, c, sk, Rk, rfl, hnl, hnk, hm, hp, hf, hxc, hx, hb, hg, hgc⟩ := hrel
        clear HP8 HF8 HXC8 HXF8 HB8 HA HGF HGC
        have HP0 := Lib.hid hp
        have HF0 := Lib.hid hf
        have HXC0 := Lib.hid hxc
        have HXF0 := Lib.hid hx
        have HB0 := Lib.hid hb
        have HGF := Lib.hid hg
        have HGC := Lib.hid hgc
        have HNL := Lib.hid hnl
        have HNK := Lib.hid hnk
        have hn2 : n ≤ 100001 := by omega
        clear hp hf hx hxc hb hg hgc hnl hnk
        cases more with
        | false =>
          have hm2 : (pure l : PM (List (List UInt8 × Int))) sk = some (L, sL) := hm
          obtain ⟨q1, q2⟩ := pure_end hm2
          subst q1
          subst q2
          clear hm hm2
          go_upto_region 14 with fail
          obtain ⟨s72, e1, h⟩ := mod_out HM.out
          have NC := Lib.hid (must_q HP0.out ({ data := #[41] }) e1)
          replace HM := Lib.hid h
          clear h e1
          go_wp2_with fail
          refine NC.out.mono ?_
          rintro e w73 ⟨rfl, R74, hp, hf⟩
          have HP1 := Lib.hid hp
          have HF1 := Lib.hid (HF0.out.trans hf)
          have HXC1 := Lib.hid (HXC0.out.keep hf)
          have HXF1 := Lib.hid (HXF0.out.keep hf)
          have HB1 := Lib.hid (own_keepG HB0.out.1 hf HB0.out.2)
          clear HP0 HF0 HXC0 HXF0 HB0 hp hf NC 
          obtain ⟨b, hb, h⟩ := ask_out HM.out
          obtain ⟨rt, sR, hm, h⟩ := bind_out h
          have IC := Lib.hid (ris_q HP1.out ({ data := #[123] }) hb)
          have HA := Lib.hid hm
          replace HM := Lib.hid h
          clear h hm hb
          cases b with
          | true =>
            go_wp2_with fail
            refine IC.out.mono ?_
            rintro e w75 ⟨rfl, k1⟩
            have HP2 := Lib.hid (HP1.out.keep k1)
            have HF2 := Lib.hid (HF1.out.keeps k1)
            have HXC2 := Lib.hid (HXC1.out.keeps k1)
            have HXF2 := Lib.hid (HXF1.out.keeps k1)
            have HB2 := Lib.hid (own_keepG HB1.out.1 ((Fr.refl R74 w73).keeps k1) HB1.out.2)
            clear HP1 HF1 HXC1 HXF1 HB1 IC k1 
            have h := HA.out
            first | rw [if_pos rfl] at h | rw [if_pos trivial] at h
            obtain ⟨q1, q2⟩ := pure_end h
            subst q1
            subst q2
            clear HA h
            obtain ⟨y, s76, hm, h⟩ := bind_out HM.out
            have NC := Lib.hid (BL _ _ _ _ _ hm HP2.out)
            replace HM := Lib.hid h
            clear h hm
            go_wp2_with fail
            refine NC.out.mono ?_
            rintro e w77 ⟨rfl, R78, hp, hf⟩
            have HP3 := Lib.hid hp
            have HF3 := Lib.hid (HF2.out.trans hf)
            have HXC3 := Lib.hid (HXC2.out.keep hf)
            have HXF3 := Lib.hid (HXF2.out.keep hf)
            have HB3 := Lib.hid (own_keepG HB2.out.1 hf HB2.out.2)
            clear HP2 HF2 HXC2 HXF2 HB2 hp hf NC 
            have zF4 := HXF3.out.cells 4 _ rfl
            have gF4 := HXF3.out.fz 4
            go_upto_region 19 with fail
            clear zF4 gF4
            have hrow := ownsRow_keep HB3.out.1 (fun g hg => ((Keeps.refl (fun b => b = F) w77).setCell (p := ⟨F, 4, none⟩) (fun _ => rfl) (.int .i64 y)).block g (own_ltk HB3.out.1 hg) (fun e => HGF.out g hg (show g = F from e).symm))
            have HB4 := Lib.hid (And.intro hrow HB3.out.2)
            clear hrow HB3
            obtain ⟨w79, hw⟩ : ∃ w79, w79 = w77.setCell ⟨F, 4, none⟩ (.int .i64 y) := ⟨_, rfl⟩
            have HP4 := Lib.hid (HP3.out.local HXF3.out.out (Nat.lt_of_lt_of_le HLO.out HWF.out) 4 (.int .i64 y))
            have HF4 := Lib.hid (HF3.out.local HWF.out 4 (.int .i64 y))
            have HXF4 : Hid (Loc w79 R78 F [.string (ofL x), .int .i64 ln, .slice A n c, .int .i64 0, .int .i64 y]) := Lib.hid (by rw [hw]; exact HXF3.out.set 4 (.int .i64 y) (by simp))
            rw [← hw] at HP4 HF4 HB4 ⊢
            have HXC4 : Hid (Loc w79 R78 C [.string (ofL []), .int .i64 0, .slice none 0 0, .int .i64 0, .int .i64 0]) := Lib.hid (by rw [hw]; exact HXC3.out.keepsR (S := fun b => b = F) ((Keeps.refl (fun b => b = F) w77).setCell (p := ⟨F, 4, none⟩) (fun _ => rfl) _) HNCF.out)
            clear HP3 HF3 HXC3 HXF3 hw
            obtain ⟨q1, q2⟩ := pure_end HM.out
            subst q1
            subst q2
            have zF0 := HXF4.out.cells 0 _ rfl
            have zF1 := HXF4.out.cells 1 _ rfl
            have zF2 := HXF4.out.cells 2 _ rfl
            have zF3 := HXF4.out.cells 3 _ rfl
            have zF4 := HXF4.out.cells 4 _ rfl
            have zC0 := HXC4.out.cells 0 _ rfl
            have zC1 := HXC4.out.cells 1 _ rfl
            have zC2 := HXC4.out.cells 2 _ rfl
            have zC3 := HXC4.out.cells 3 _ rfl
            have zC4 := HXC4.out.cells 4 _ rfl
            have gC0 := HXC4.out.fz 0
            have gC1 := HXC4.out.fz 1
            have gC2 := HXC4.out.fz 2
            have gC3 := HXC4.out.fz 3
            have gC4 := HXC4.out.fz 4
            go_wp2_with fail
            (try simp only [Exit.inBlock, Exit.then])
            refine bodyPost_ret (v := .agg #[.string (ofL x), .int .i64 ln, .slice A n c, .int .i64 0, .int .i64 y]) ?_ rfl ?_
            · rw [results_cell1 rfl]
              go_simp
            clear zF0 zF1 zF2 zF3 zF4 zC0 zC1 zC2 zC3 zC4 gC0 gC1 gC2 gC3 gC4
            have hnl : n = (L).length := HNL.out
            have ky := fun (w1 : World) (k1 : Keeps (fun b => b = C) w79 w1) j u => k1.setCell (p := ⟨C, j, none⟩) (fun _ => rfl) u
            have kk := ky _ (ky _ (ky _ (ky _ (ky _ (Keeps.refl (fun b => b = C) w79) 0 (.string (ofL x))) 1 (.int .i64 ln)) 2 (.slice A n c)) 3 (.int .i64 0)) 4 (.int .i64 y)
            have hpl := HP4.out.keepR kk (fun b hr e => HXC4.out.out (e ▸ hr)) (fun b (e : b = C) => Nat.le_of_lt (Nat.lt_of_lt_of_le HLO.out (e.symm ▸ HWC.out)))
            have hfl : Fr R w R78 _ := ⟨HF4.out.1.trans (T := fun b => b = C) kk (fun x hx (e : x = C) => absurd (show w.heap.size ≤ x from e.symm ▸ HWC.out) (Nat.not_le.2 hx)), HF4.out.2⟩
            have hol := ownsRow_keep HB4.out.1 (fun g hg => kk.block g (own_ltk HB4.out.1 hg) (fun e => HGC.out g hg (show g = C from e).symm))
            exact ⟨A, c, by rw [hnl], own_len hnl hol, _, hpl, hfl, fun g hg => HB4.out.2 g ((own_blk _ _ _ _).trans hg)⟩
          | false =>
            go_wp2_with fail
            refine IC.out.mono ?_
            rintro e w80 ⟨rfl, k1⟩
            have HP2 := Lib.hid (HP1.out.keep k1)
            have HF2 := Lib.hid (HF1.out.keeps k1)
            have HXC2 := Lib.hid (HXC1.out.keeps k1)
            have HXF2 := Lib.hid (HXF1.out.keeps k1)
            have HB2 := Lib.hid (own_keepG HB1.out.1 ((Fr.refl R74 w73).keeps k1) HB1.out.2)
            clear HP1 HF1 HXC1 HXF1 HB1 IC k1 
            have h := HA.out
            first | rw [if_neg (show ¬ false = true by decide)] at h | rw [if_neg (show ¬ False by decide)] at h
            have NC := Lib.hid (typed_any _ _ _ _ _ h HP2.out)
            clear HA h
            go_wp2_with fail
            refine NC.out.mono ?_
            rintro e w81 ⟨rfl, R82, hp, hf⟩
            have HP3 := Lib.hid hp
            have HF3 := Lib.hid (HF2.out.trans hf)
            have HXC3 := Lib.hid (HXC2.out.keep hf)
            have HXF3 := Lib.hid (HXF2.out.keep hf)
            have HB3 := Lib.hid (own_keepG HB2.out.1 hf HB2.out.2)
            clear HP2 HF2 HXC2 HXF2 HB2 hp hf NC 
            have zF3 := HXF3.out.cells 3 _ rfl
            have gF3 := HXF3.out.fz 3
            go_upto_region 18 with fail
            clear zF3 gF3
            have hrow := ownsRow_keep HB3.out.1 (fun g hg => ((Keeps.refl (fun b => b = F) w81).setCell (p := ⟨F, 3, none⟩) (fun _ => rfl) (.int .i64 rt)).block g (own_ltk HB3.out.1 hg) (fun e => HGF.out g hg (show g = F from e).symm))
            have HB4 := Lib.hid (And.intro hrow HB3.out.2)
            clear hrow HB3
            obtain ⟨w83, hw⟩ : ∃ w83, w83 = w81.setCell ⟨F, 3, none⟩ (.int .i64 rt) := ⟨_, rfl⟩
            have HP4 := Lib.hid (HP3.out.local HXF3.out.out (Nat.lt_of_lt_of_le HLO.out HWF.out) 3 (.int .i64 rt))
            have HF4 := Lib.hid (HF3.out.local HWF.out 3 (.int .i64 rt))
            have HXF4 : Hid (Loc w83 R82 F [.string (ofL x), .int .i64 ln, .slice A n c, .int .i64 rt, .int .i64 0]) := Lib.hid (by rw [hw]; exact HXF3.out.set 3 (.int .i64 rt) (by simp))
            rw [← hw] at HP4 HF4 HB4 ⊢
            have HXC4 : Hid (Loc w83 R82 C [.string (ofL []), .int .i64 0, .slice none 0 0, .int .i64 0, .int .i64 0]) := Lib.hid (by rw [hw]; exact HXC3.out.keepsR (S := fun b => b = F) ((Keeps.refl (fun b => b = F) w81).setCell (p := ⟨F, 3, none⟩) (fun _ => rfl) _) HNCF.out)
            clear HP3 HF3 HXC3 HXF3 hw
            obtain ⟨y, s84, hm, h⟩ := bind_out HM.out
            have NC := Lib.hid (BL _ _ _ _ _ hm HP4.out)
            replace HM := Lib.hid h
            clear h hm
            go_wp2_with fail
            refine NC.out.mono ?_
            rintro e w85 ⟨rfl, R86, hp, hf⟩
            have HP5 := Lib.hid hp
            have HF5 := Lib.hid (HF4.out.trans hf)
            have HXC5 := Lib.hid (HXC4.out.keep hf)
            have HXF5 := Lib.hid (HXF4.out.keep hf)
            have HB5 := Lib.hid (own_keepG HB4.out.1 hf HB4.out.2)
            clear HP4 HF4 HXC4 HXF4 HB4 hp hf NC 
            have zF4 := HXF5.out.cells 4 _ rfl
            have gF4 := HXF5.out.fz 4
            go_upto_region 19 with fail
            clear zF4 gF4
            have hrow := ownsRow_keep HB5.out.1 (fun g hg => ((Keeps.refl (fun b => b = F) w85).setCell (p := ⟨F, 4, none⟩) (fun _ => rfl) (.int .i64 y)).block g (own_ltk HB5.out.1 hg) (fun e => HGF.out g hg (show g = F from e).symm))
            have HB6 := Lib.hid (And.intro hrow HB5.out.2)
            clear hrow HB5
            obtain ⟨w87, hw⟩ : ∃ w87, w87 = w85.setCell ⟨F, 4, none⟩ (.int .i64 y) := ⟨_, rfl⟩
            have HP6 := Lib.hid (HP5.out.local HXF5.out.out (Nat.lt_of_lt_of_le HLO.out HWF.out) 4 (.int .i64 y))
            have HF6 := Lib.hid (HF5.out.local HWF.out 4 (.int .i64 y))
            have HXF6 : Hid (Loc w87 R86 F [.string (ofL x), .int .i64 ln, .slice A n c, .int .i64 rt, .int .i64 y]) := Lib.hid (by rw [hw]; exact HXF5.out.set 4 (.int .i64 y) (by simp))
            rw [← hw] at HP6 HF6 HB6 ⊢
            have HXC6 : Hid (Loc w87 R86 C [.string (ofL []), .int .i64 0, .slice none 0 0, .int .i64 0, .int .i64 0]) := Lib.hid (by rw [hw]; exact HXC5.out.keepsR (S := fun b => b = F) ((Keeps.refl (fun b => b = F) w85).setCell (p := ⟨F, 4, none⟩) (fun _ => rfl) _) HNCF.out)
            clear HP5 HF5 HXC5 HXF5 hw
            obtain ⟨q1, q2⟩ := pure_end HM.out
            subst q1
            subst q2
            have zF0 := HXF6.out.cells 0 _ rfl
            have zF1 := HXF6.out.cells 1 _ rfl
            have zF2 := HXF6.out.cells 2 _ rfl
            have zF3 := HXF6.out.cells 3 _ rfl
            have zF4 := HXF6.out.cells 4 _ rfl
            have zC0 := HXC6.out.cells 0 _ rfl
            have zC1 := HXC6.out.cells 1 _ rfl
            have zC2 := HXC6.out.cells 2 _ rfl
            have zC3 := HXC6.out.cells 3 _ rfl
            have zC4 := HXC6.out.cells 4 _ rfl
            have gC0 := HXC6.out.fz 0
            have gC1 := HXC6.out.fz 1
            have gC2 := HXC6.out.fz 2
            have gC3 := HXC6.out.fz 3
            have gC4 := HXC6.out.fz 4
            go_wp2_with fail
            (try simp only [Exit.inBlock, Exit.then])
            refine bodyPost_ret (v := .agg #[.string (ofL x), .int .i64 ln, .slice A n c, .int .i64 rt, .int .i64 y]) ?_ rfl ?_
            · rw [results_cell1 rfl]
              go_simp
            clear zF0 zF1 zF2 zF3 zF4 zC0 zC1 zC2 zC3 zC4 gC0 gC1 gC2 gC3 gC4
            have hnl : n = (L).length := HNL.out
            have ky := fun (w1 : World) (k1 : Keeps (fun b => b = C) w87 w1) j u => k1.setCell (p := ⟨C, j, none⟩) (fun _ => rfl) u
            have kk := ky _ (ky _ (ky _ (ky _ (ky _ (Keeps.refl (fun b => b = C) w87) 0 (.string (ofL x))) 1 (.int .i64 ln)) 2 (.slice A n c)) 3 (.int .i64 rt)) 4 (.int .i64 y)
            have hpl := HP6.out.keepR kk (fun b hr e => HXC6.out.out (e ▸ hr)) (fun b (e : b = C) => Nat.le_of_lt (Nat.lt_of_lt_of_le HLO.out (e.symm ▸ HWC.out)))
            have hfl : Fr R w R86 _ := ⟨HF6.out.1.trans (T := fun b => b = C) kk (fun x hx (e : x = C) => absurd (show w.heap.size ≤ x from e.symm ▸ HWC.out) (Nat.not_le.2 hx)), HF6.out.2⟩
            have hol := ownsRow_keep HB6.out.1 (fun g hg => kk.block g (own_ltk HB6.out.1 hg) (fun e => HGC.out g hg (show g = C from e).symm))
            exact ⟨A, c, by rw [hnl], own_len hnl hol, _, hpl, hfl, fun g hg => HB6.out.2 g ((own_blk _ _ _ _).trans hg)⟩
        | true =>
          have hm2 : rparamsR T (gk - 1) l sk = some (L, sL) := hm
          clear hm
          obtain ⟨k, hk⟩ : ∃ k, gk - 1 = k + 1 := by
            rcases hgk : gk - 1 with _ | k
            · rw [hgk] at hm2
              cases hm2
            · exact ⟨k, rfl⟩
          rw [hk] at hm2
          have HKK := Lib.hid hk
          clear hk
          unfold rparamsR at hm2
          have HA := Lib.hid hm2
          clear hm2
          obtain ⟨x1, ex, h⟩ := ask_out HA.out
          obtain ⟨s88, e1, h⟩ := mod_out h
          have NC := Lib.hid (rname_q HP0.out e1 ex)
          replace HA := Lib.hid h
          clear h e1 ex
          go_wp2_with fail
          refine NC.out.mono ?_
          rintro e w89 ⟨rfl, R90, hp, hf⟩
          have HP1 := Lib.hid hp
          have HF1 := Lib.hid (HF0.out.trans hf)
          have HXC1 := Lib.hid (HXC0.out.keep hf)
          have HXF1 := Lib.hid (HXF0.out.keep hf)
          have HB1 := Lib.hid (own_keepG HB0.out.1 hf HB0.out.2)
          clear HP0 HF0 HXC0 HXF0 HB0 hp hf NC 
          obtain ⟨t1, s91, hm, h⟩ := bind_out HA.out
          have NC := Lib.hid (typed_any _ _ _ _ _ hm HP1.out)
          replace HA := Lib.hid h
          clear h hm
          go_wp2_with fail
          refine NC.out.mono ?_
          rintro e w92 ⟨rfl, R93, hp, hf⟩
          have HP2 := Lib.hid hp
          have HF2 := Lib.hid (HF1.out.trans hf)
          have HXC2 := Lib.hid (HXC1.out.keep hf)
          have HXF2 := Lib.hid (HXF1.out.keep hf)
          have HB2 := Lib.hid (own_keepG HB1.out.1 hf HB1.out.2)
          clear HP1 HF1 HXC1 HXF1 HB1 hp hf NC 
          have zF2 := HXF2.out.cells 2 _ rfl
          go_upto_region 11 with (at_builtin; refine wpList_append_atk rfl (.tmp 36) (.tmp 40) 34 rfl 0 59 ip _ 2 24 Tryd.underlying34 hip hp0 hp1 hp2 (by rfl) (by omega) (.slice A n c) n (flatP l) (by rfl) (ownsRow_keep HB2.out.1 (fun g hg => (Keeps.one w92 _).block g (own_ltk HB2.out.1 hg) (fun h => h))) ⟨w92.heap.size, 0, none⟩ 1 1 (PmV (x1, t1)) (by rfl) (by rfl) (newsG (PmV (x1, t1)) _) (PmV_one _) (by omega) (by omega) (Nat.zero_le _) ?_; intro v5 w94 h5 g5 b5; obtain ⟨A5, c5, rfl⟩ := own_formk h5; have hmm := own_moreR HP2.out HF2.out HLO.out HB2.out.2 (Keeps.one w92 (.cells #[.string (ofL x1), .int .i64 t1] 59)) g5 b5; have HP3 := Lib.hid hmm.1; have HF3 := Lib.hid hmm.2.1; have HB3 : Hid (w94.ownsRow 0 59 2 (.slice A5 (n + 1) c5) (n + 1) (flatP (l ++ [(x1, t1)])) ∧ ∀ g, (Value.slice A5 (n + 1) c5).ownBlock = some g → ¬ R93 g ∧ w.heap.size ≤ g) := Lib.hid ⟨by rw [flatP_more]; exact h5, hmm.2.2.1⟩; have HXC3 := Lib.hid (HXC2.out.keepsR hmm.2.2.2 (fun hv => HGC.out _ hv rfl)); have HXF3 := Lib.hid (HXF2.out.keepsR hmm.2.2.2 (fun hv => HGF.out _ hv rfl)); have HHC : Hid (∀ g, (Value.slice A5 (n + 1) c5).ownBlock = some g → ¬ C = g) := Lib.hid (row_out b5 (Nat.lt_of_lt_of_le HXC2.out.lt (Keeps.one w92 _).size) HGC.out); have HHF : Hid (∀ g, (Value.slice A5 (n + 1) c5).ownBlock = some g → ¬ F = g) := Lib.hid (row_out b5 (Nat.lt_of_lt_of_le HXF2.out.lt (Keeps.one w92 _).size) HGF.out); clear hmm h5 g5 b5 zF2 HP2 HF2 HXC2 HXF2 HB2; have zF2 := HXF3.out.cells 2 _ rfl; have gF2 := HXF3.out.fz 2)
          clear zF2 gF2
          have hrow := ownsRow_keep HB3.out.1 (fun g hg => ((Keeps.refl (fun b => b = F) w94).setCell (p := ⟨F, 2, none⟩) (fun _ => rfl) (.slice A5 (n + 1) c5)).block g (own_ltk HB3.out.1 hg) (fun e => HHF.out g hg (show g = F from e).symm))
          have HB4 := Lib.hid (And.intro hrow HB3.out.2)
          clear hrow HB3
          obtain ⟨w95, hw⟩ : ∃ w95, w95 = w94.setCell ⟨F, 2, none⟩ (.slice A5 (n + 1) c5) := ⟨_, rfl⟩
          have HP4 := Lib.hid (HP3.out.local HXF3.out.out (Nat.lt_of_lt_of_le HLO.out HWF.out) 2 (.slice A5 (n + 1) c5))
          have HF4 := Lib.hid (HF3.out.local HWF.out 2 (.slice A5 (n + 1) c5))
          have HXF4 : Hid (Loc w95 R93 F [.string (ofL x), .int .i64 ln, .slice A5 (n + 1) c5, .int .i64 0, .int .i64 0]) := Lib.hid (by rw [hw]; exact HXF3.out.set 2 (.slice A5 (n + 1) c5) (by simp))
          rw [← hw] at HP4 HF4 HB4 ⊢
          have HXC4 : Hid (Loc w95 R93 C [.string (ofL []), .int .i64 0, .slice none 0 0, .int .i64 0, .int .i64 0]) := Lib.hid (by rw [hw]; exact HXC3.out.keepsR (S := fun b => b = F) ((Keeps.refl (fun b => b = F) w94).setCell (p := ⟨F, 2, none⟩) (fun _ => rfl) _) HNCF.out)
          clear HP3 HF3 HXC3 HXF3 hw
          obtain ⟨b, hb, h⟩ := ask_out HA.out
          have IC := Lib.hid (ris_q HP4.out ({ data := #[44] }) hb)
          replace HA := Lib.hid h
          clear h hb
          cases b with
          | true =>
            have h := HA.out
            rw [if_pos rfl] at h
            replace HA := Lib.hid h
            clear h
            go_wp2_with fail
            refine IC.out.mono ?_
            rintro e w96 ⟨rfl, k1⟩
            have HP5 := Lib.hid (HP4.out.keep k1)
            have HF5 := Lib.hid (HF4.out.keeps k1)
            have HXC5 := Lib.hid (HXC4.out.keeps k1)
            have HXF5 := Lib.hid (HXF4.out.keeps k1)
            have HB5 := Lib.hid (own_keepG HB4.out.1 ((Fr.refl R93 w95).keeps k1) HB4.out.2)
            clear HP4 HF4 HXC4 HXF4 HB4 IC k1 
            go_upto_region 13 with fail
            obtain ⟨u, s97, hm, h⟩ := bind_out HA.out
            obtain ⟨hi, e1⟩ := go_out hm
            replace HA := Lib.hid h
            obtain ⟨ew, c2, f2, hp, hf⟩ := HP5.out.stepAt hi
            have HP6 : Hid (Red (w96.setCell ⟨P, 2, none⟩ (.int .i64 ((s91.i : Int) + 1))) P src T R93 s97) := Lib.hid (by rw [e1]; exact hp)
            have HF6 := Lib.hid (HF5.out.trans hf)
            have HXC6 := Lib.hid (HXC5.out.keep hf)
            have HXF6 := Lib.hid (HXF5.out.keep hf)
            have HB6 := Lib.hid (own_keepG HB5.out.1 hf HB5.out.2)
            clear h hm e1 hi hp hf HP5 HF5 HXC5 HXF5 HB5
            generalize (s91.i : Int) = ii at *
            go_wp2_with fail
            generalize w96.setCell ⟨P, 2, none⟩ (.int .i64 (ii + 1)) = w98 at *
            clear c2 f2 ew
            go_roundg (gk - 1)
            case measure => go_light; have := HKK.out; omega
            case rel => exact ⟨_, l ++ [(x1, t1)], _, n + 1, _, _, _, rfl, by rw [List.length_append, ← HNL.out]; rfl, by have := HNK.out; have := HKK.out; go_light; omega, by rw [if_pos rfl, show gk - 1 - 1 = k by have := HKK.out; omega]; exact HA.out, HP6.out, HF6.out, HXC6.out, HXF6.out, HB6.out, HHF.out, HHC.out⟩
          | false =>
            have h := HA.out
            rw [if_neg (by decide)] at h
            replace HA := Lib.hid h
            clear h
            go_wp2_with fail
            refine IC.out.mono ?_
            rintro e w99 ⟨rfl, k1⟩
            have HP5 := Lib.hid (HP4.out.keep k1)
            have HF5 := Lib.hid (HF4.out.keeps k1)
            have HXC5 := Lib.hid (HXC4.out.keeps k1)
            have HXF5 := Lib.hid (HXF4.out.keeps k1)
            have HB5 := Lib.hid (own_keepG HB4.out.1 ((Fr.refl R93 w95).keeps k1) HB4.out.2)
            clear HP4 HF4 HXC4 HXF4 HB4 IC k1 
            go_wp2_with fail
            go_roundg (gk - 1)
            case measure => go_light; have := HKK.out; omega
            case rel => exact ⟨_, l ++ [(x1, t1)], _, n + 1, _, _, _, rfl, by rw [List.length_append, ← HNL.out]; rfl, by have := HNK.out; have := HKK.out; go_light; omega, by rw [if_neg (by decide)]; exact HA.out, HP5.out, HF5.out, HXC5.out, HXF5.out, HB5.out, HHF.out, HHC.out⟩
end Go.Proofs.YtgelggdgbmldiaaDoor
