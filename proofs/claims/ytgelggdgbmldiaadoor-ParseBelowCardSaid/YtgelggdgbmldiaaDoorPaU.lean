/-
  Layer 2: block. Written by an AI agent.
-/
import Derived.Test.YtgelggdgbmldiaaDoorPaS
import Derived.Test.YtgelggdgbmldiaaDoorPaT
import Derived.Deep.RegionHeld
import Derived.Deep.LoopGhost
import Derived.Deep.CutRange
namespace Go.Proofs.YtgelggdgbmldiaaDoor
open Go Go.RowKit Go.Shelf
set_option linter.unusedVariables false
set_option linter.unusedSimpArgs false

set_option maxRecDepth 100000 in
set_option maxHeartbeats 16000000 in
theorem block_any {P : Nat} {src : ByteArray} {T : List Tok} {N : Nat} {st : PM Int} (hsz : src.size ≤ 1000) (hN : N ≤ 100000) (ST : ExC P src T 83 st) : ExC P src T 55 (blockM src.data.toList T N st) := by
  intro s r s' R w h hp
  obtain ⟨i0, hi0, hz0, hz1, hz2⟩ := info_parts info_int
  have HP0 := Lib.hid hp
  have HF0 := Lib.hid (Fr.refl R w)
  have HLO := Lib.hid hp.lo
  have HM := Lib.hid h
  clear h hp
  go_enter Tryd.func55, Tryd.ntmps55
  obtain ⟨ln, hln, h⟩ := ask_out HM.out
  have LC := Lib.hid (line_at hsz HP0.out hln)
  replace HM := Lib.hid h
  clear h hln
  go_wp2_with fail
  refine LC.out.mono ?_
  rintro e w1 ⟨rfl, k1⟩
  have HP1 := Lib.hid (HP0.out.keep k1)
  have HF1 := Lib.hid (HF0.out.keeps k1)
  clear HP0 HF0 LC k1 
  go_upto_region 2 with fail
  have ka := Keeps.one w1 (.cells #[.int .i64 18, .int .i64 ln, .int .i64 0, .string { data := #[] }, .slice none 0 0] 33)
  obtain ⟨X, hX⟩ : ∃ X, X = w1.heap.size := ⟨_, rfl⟩
  obtain ⟨w2, hw⟩ : ∃ w2, w2 = w1.alloc (.cells #[.int .i64 18, .int .i64 ln, .int .i64 0, .string { data := #[] }, .slice none 0 0] 33) := ⟨_, rfl⟩
  have HXX2 : Hid (Loc w2 R X [.int .i64 18, .int .i64 ln, .int .i64 0, .string (ofL []), .slice none 0 0]) := Lib.hid (by rw [hw, hX]; exact Loc.new HP1.out.new [.int .i64 18, .int .i64 ln, .int .i64 0, .string (ofL []), .slice none 0 0] 33)
  have HWX : Hid (w.heap.size ≤ X) := Lib.hid (by rw [hX]; exact HF1.out.1.size)
  rw [← hX]
  rw [← hw] at ka ⊢
  have HP2 := Lib.hid (HP1.out.keep ka)
  have HF2 := Lib.hid (HF1.out.keeps ka)
  clear HP1 HF1 ka hw hX
  obtain ⟨u, s3, hm, h⟩ := bind_out HM.out
  have NC := Lib.hid (open_any HP2.out ({ data := #[123] }) hm)
  replace HM := Lib.hid h
  clear h hm
  go_wp2_with fail
  refine NC.out.mono ?_
  rintro e w4 ⟨rfl, R5, hp, hf⟩
  have HP3 := Lib.hid hp
  have HF3 := Lib.hid (HF2.out.trans hf)
  have HXX3 := Lib.hid (HXX2.out.keep hf)
  clear HP2 HF2 HXX2 hp hf NC 
  obtain ⟨L, sL, hm, h⟩ := bind_out HM.out
  have HA := Lib.hid hm
  replace HM := Lib.hid h
  clear h hm
  go_wp2_with fail
  go_loopg [4] N (fun k s4 wr => ∃ (l : List Int) (A : Option Addr) (n c : Nat) (sk : PS) (Rk : Nat → Prop), s4 = .slice A n c ∧ n = l.length ∧ n + k ≤ N ∧ stmsR T st k l sk = some (L, sL) ∧ Par wr P src T Rk sk ∧ Fr R w Rk wr ∧ Loc wr Rk X [.int .i64 18, .int .i64 ln, .int .i64 0, .string (ofL []), .slice none 0 0] ∧ (wr.ownsRow 0 3 1 (.slice A n c) n (valI l) ∧ ∀ g, (Value.slice A n c).ownBlock = some g → ¬ Rk g ∧ w.heap.size ≤ g) ∧ ∀ g, (Value.slice A n c).ownBlock = some g → ¬ X = g)
  case atStart => exact ⟨[], none, 0, 0, _, _, rfl, rfl, by omega, HA.out, HP3.out, HF3.out, HXX3.out, ⟨World.ownsRow_nil _ _ _ _, fun g hg => by simp [Value.ownBlock] at hg⟩, fun g hg => by simp [Value.ownBlock] at hg⟩
  case round =>
    obtain ⟨l, A, n, c, sk, Rk, rfl, hnl, hnk, hm, hp, hf, hx, hb, hg⟩ := hrel
    clear HP3 HF3 HXX3 HA
    cases gk with
    | zero =>
      have h0 : (none : Option (List Int × PS)) = some (L, sL) := hm
      cases h0
    | succ k =>
      unfold stmsR at hm
      have c4 := hp.see.c4
      obtain ⟨b, hb2, hm⟩ := ask_out hm
      have HP0 := Lib.hid hp
      have HF0 := Lib.hid hf
      have HXX0 := Lib.hid hx
      have HB0 := Lib.hid hb
      have HGX := Lib.hid hg
      have HA := Lib.hid hm
      have HNL := Lib.hid hnl
      have HNK := Lib.hid hnk
      have hn2 : n ≤ 100001 := by omega
      clear hp hf hx hb hg hm hnl hnk
      by_cases he : sk.er = 0
      · skip
        rw [he] at c4
        obtain ⟨b1, hb1⟩ : ∃ b1, b1 = isS T [[125]] sk := ⟨_, rfl⟩
        have hbb : b = !b1 := by rw [hb2, decide_eq_true he, hb1]; rfl
        subst hbb
        have IC := Lib.hid (is_at1 HP0.out ({ data := #[125] }) hb1)
        clear hb1 he hb2
        cases b1 with
        | true =>
          go_wp2_with fail
          refine IC.out.mono ?_
          rintro e w6 ⟨rfl, k1⟩
          have HP1 := Lib.hid (HP0.out.keep k1)
          have HF1 := Lib.hid (HF0.out.keeps k1)
          have HXX1 := Lib.hid (HXX0.out.keeps k1)
          have HB1 := Lib.hid (own_keep HB0.out.1 ((Fr.refl Rk wr).keeps k1) HB0.out.2)
          clear HP0 HF0 HXX0 HB0 IC k1 c4
          have h := HA.out
          rw [if_neg (by decide)] at h
          obtain ⟨q1, q2⟩ := pure_end h
          subst q1
          subst q2
          clear HA h
          obtain ⟨u, s7, hm, h⟩ := bind_out HM.out
          have NC := Lib.hid (shut_any HP1.out ({ data := #[125] }) hm)
          replace HM := Lib.hid h
          clear h hm
          go_wp2_with fail
          refine NC.out.mono ?_
          rintro e w8 ⟨rfl, R9, hp, hf⟩
          have HP2 := Lib.hid hp
          have HF2 := Lib.hid (HF1.out.trans hf)
          have HXX2 := Lib.hid (HXX1.out.keep hf)
          have HB2 := Lib.hid (own_keep HB1.out.1 hf HB1.out.2)
          clear HP1 HF1 HXX1 HB1 hp hf NC 
          have NC := Lib.hid ((nodeC P src T).row HP2.out (18) (ln) (0) ([]) L (HNL.out) HB2.out.1 HF2.out HLO.out HB2.out.2 HM.out)
          have zX0 := HXX2.out.cells 0 _ rfl
          have zX1 := HXX2.out.cells 1 _ rfl
          have zX2 := HXX2.out.cells 2 _ rfl
          have zX3 := HXX2.out.cells 3 _ rfl
          have zX4 := HXX2.out.cells 4 _ rfl
          go_wp2_with fail
          refine NC.out.mono ?_
          rintro e w10 ⟨rfl, R11, hp, hf⟩
          have HZ : Hid (∃ R', Par w10 P src T R' s' ∧ Fr R w R' w10) := Lib.hid ⟨_, hp, hf⟩
          clear hp hf NC zX0 zX1 zX2 zX3 zX4
          go_wp2_with fail
          go_ret
          exact ⟨rfl, HZ.out⟩
        | false =>
          go_wp2_with fail
          refine IC.out.mono ?_
          rintro e w12 ⟨rfl, k1⟩
          have HP1 := Lib.hid (HP0.out.keep k1)
          have HF1 := Lib.hid (HF0.out.keeps k1)
          have HXX1 := Lib.hid (HXX0.out.keeps k1)
          have HB1 := Lib.hid (own_keep HB0.out.1 ((Fr.refl Rk wr).keeps k1) HB0.out.2)
          clear HP0 HF0 HXX0 HB0 IC k1 c4
          have h := HA.out
          rw [if_pos (by rfl)] at h
          replace HA := Lib.hid h
          clear h
          obtain ⟨y, s13, hm, h⟩ := bind_out HA.out
          have NC := Lib.hid (ST _ _ _ _ _ hm HP1.out)
          replace HA := Lib.hid h
          clear h hm
          go_wp2_with fail
          refine NC.out.mono ?_
          rintro e w14 ⟨rfl, R15, hp, hf⟩
          have HP2 := Lib.hid hp
          have HF2 := Lib.hid (HF1.out.trans hf)
          have HXX2 := Lib.hid (HXX1.out.keep hf)
          have HB2 := Lib.hid (own_keep HB1.out.1 hf HB1.out.2)
          clear HP1 HF1 HXX1 HB1 hp hf NC 
          go_wp2_with (at_builtin; refine wpList_append_atk rfl (.tmp 26) (.tmp 29) 31 rfl 0 3 i0 _ 1 8 Tryd.underlying31 hi0 hz0 hz1 hz2 (by rfl) (by omega) (.slice A n c) (n) (valI l) (by rfl) (ownsRow_keep HB2.out.1 (fun g hg => (Keeps.one w14 _).block g (own_ltk HB2.out.1 hg) (fun h => h))) ⟨w14.heap.size, 0, none⟩ 1 1 (valI [y]) (by rfl) (by rfl) (newsI y _) (valI_one _) (by omega) (by omega) (Nat.zero_le _) ?_; intro v5 w16 h5 g5 b5; obtain ⟨A17, c18, rfl⟩ := own_formk h5; have hmm := own_more HP2.out HF2.out HLO.out HB2.out.2 (Keeps.one w14 (.cells #[.int .i64 y] 3)) g5 b5; have HP3 := Lib.hid hmm.1; have HF3 := Lib.hid hmm.2.1; have HB3 : Hid (w16.ownsRow 0 3 1 (.slice A17 (n + 1) c18) (n + 1) (valI (l ++ [y])) ∧ ∀ g, (Value.slice A17 (n + 1) c18).ownBlock = some g → ¬ R15 g ∧ w.heap.size ≤ g) := Lib.hid (And.intro (row_app h5) hmm.2.2.1); have HXX3 := Lib.hid (HXX2.out.keepsR hmm.2.2.2 (fun hv => HGX.out _ hv rfl)); replace HGX : Hid (∀ g, (Value.slice A17 (n + 1) c18).ownBlock = some g → ¬ X = g) := Lib.hid (row_out b5 (Nat.lt_of_lt_of_le HXX2.out.lt (Keeps.one w14 _).size) HGX.out); clear hmm h5 g5 b5 HP2 HF2 HXX2 HB2)
          go_roundg k
          case measure => omega
          case rel => exact ⟨l ++ [y], _, n + 1, _, _, _, rfl, by rw [List.length_append, ← HNL.out]; rfl, by have := HNK.out; omega, HA.out, HP3.out, HF3.out, HXX3.out, HB3.out, HGX.out⟩
      · skip
        have heI : ¬ (sk.er : Int) = 0 := by omega
        have hd : ((sk.er : Int) == 0) = false := by simpa using heI
        have hbb : b = false := by rw [hb2, decide_eq_false he]; rfl
        subst hbb
        generalize (sk.er : Int) = er at c4 heI hd
        clear hb2 he
        go_upto_region 6 with fail
        clear c4 heI hd
        have h := HA.out
        rw [if_neg (by decide)] at h
        obtain ⟨q1, q2⟩ := pure_end h
        subst q1
        subst q2
        clear HA h
        obtain ⟨u, s19, hm, h⟩ := bind_out HM.out
        have NC := Lib.hid (shut_any HP0.out ({ data := #[125] }) hm)
        replace HM := Lib.hid h
        clear h hm
        go_wp2_with fail
        refine NC.out.mono ?_
        rintro e w20 ⟨rfl, R21, hp, hf⟩
        have HP1 := Lib.hid hp
        have HF1 := Lib.hid (HF0.out.trans hf)
        have HXX1 := Lib.hid (HXX0.out.keep hf)
        have HB1 := Lib.hid (own_keep HB0.out.1 hf HB0.out.2)
        clear HP0 HF0 HXX0 HB0 hp hf NC 
        have NC := Lib.hid ((nodeC P src T).row HP1.out (18) (ln) (0) ([]) L (HNL.out) HB1.out.1 HF1.out HLO.out HB1.out.2 HM.out)
        have zX0 := HXX1.out.cells 0 _ rfl
        have zX1 := HXX1.out.cells 1 _ rfl
        have zX2 := HXX1.out.cells 2 _ rfl
        have zX3 := HXX1.out.cells 3 _ rfl
        have zX4 := HXX1.out.cells 4 _ rfl
        go_wp2_with fail
        refine NC.out.mono ?_
        rintro e w22 ⟨rfl, R23, hp, hf⟩
        have HZ : Hid (∃ R', Par w22 P src T R' s' ∧ Fr R w R' w22) := Lib.hid ⟨_, hp, hf⟩
        clear hp hf NC zX0 zX1 zX2 zX3 zX4
        go_wp2_with fail
        go_ret
        exact ⟨rfl, HZ.out⟩


/-- What statements tell, so deep at most. -/
theorem st_any {P : Nat} {src : ByteArray} {T : List Tok} {N : Nat} (hsz : src.size ≤ 1000) (hN : N ≤ 100000) (n : Nat) : ExC P src T 83 (stM src.data.toList T N n) := by
  induction n with
  | zero => exact fun s a s1 R w h => (by cases h)
  | succ n ih =>
    have EX : ExC P src T 112 (exM src.data.toList T N 0) := expr_any ((ex_any hsz N).2 0 (by omega))
    have CALL := call_any (N := N) hsz hN EX
    exact statement_any hsz EX (block_any hsz hN ih) CALL (right_any hsz EX CALL)

end Go.Proofs.YtgelggdgbmldiaaDoor
