/-
  Layer 8: the contract of Take. Written by an AI agent.
-/
import Derived.Test.YtoombjbpblighaaDoorCoU
import Derived.Test.YtoombjbpblighaaDoorCoV
import Derived.Laws.ResultCell
namespace Go.Proofs.YtoombjbpblighaaDoor
open Go Go.RowKit Go.Shelf
set_option linter.unusedVariables false
set_option linter.unusedSimpArgs false

/-- What Take tells, by what the reader read. -/
def TakeP (T : RS × List Ins × List Int) (w : World) (e : Ending) (w' : World) : Prop :=
  (if T.1.e = 0 ∧ T.1.l = [] then
    ∃ vI vE, e = .returned (.tuple #[.agg #[vI, vE], .int .i64 0]) ∧ w'.ownsRow 0 52 4 vI T.2.1.length (flatI T.2.1) ∧ w'.ownsRow 0 3 1 vE T.2.2.length (valZ T.2.2)
   else e = .returned (.tuple #[.agg #[.slice none 0 0, .slice none 0 0], .int .i64 (if T.1.e = 0 then 3 else (T.1.e : Int))])) ∧ Keeps (fun _ => False) w w'
/-- What Take tells. -/
def TakeE (l : List Int) (w : World) (e : Ending) (w' : World) : Prop := TakeP (codeE ⟨l, 0⟩) w e w'

set_option maxRecDepth 100000 in
set_option maxHeartbeats 8000000 in
theorem take_any (A : Option Addr) (c : Nat) (l : List Int) (hlc : l.length ≤ c) (hc : c ≤ 9223372036854775807) (ok : ∀ x ∈ l, 0 ≤ x ∧ x < 256) (w : World) (hw : CodeW w) (h : RdB w w.heap.size A l) :
    Calls Tryd.prog 30 #[.slice A l.length c] w (TakeE l w) := by
  obtain ⟨B, hB⟩ : ∃ B, B = w.heap.size := ⟨_, rfl⟩
  obtain ⟨n, hn⟩ : ∃ n, n = l.length := ⟨_, rfl⟩
  obtain ⟨w1, hw1⟩ : ∃ w1, w1 = w.alloc (.cells #[.slice none 0 0, .slice none 0 0] 41) := ⟨_, rfl⟩
  obtain ⟨w2, hw2⟩ : ∃ w2, w2 = w1.alloc (.cells #[.slice A n c, .int .i64 0] 73) := ⟨_, rfl⟩
  obtain ⟨q0, q1, q2, q3⟩ := two_new w (.slice none 0 0) (.slice none 0 0) 41 rfl
  rw [← hw1, ← hB] at q0 q1 q2 q3
  have s1 : w1.heap.size = B + 1 := by rw [hw1, hB]; simp
  obtain ⟨r0, r1, r2, r3⟩ := two_new w1 (.slice A n c) (.int .i64 0) 73 rfl
  rw [← hw2, s1] at r0 r1 r2 r3
  have k1 : Keeps (fun _ => False) w w1 := by rw [hw1]; exact (Keeps.refl _ _).alloc _
  have k2 : Keeps (fun _ => False) w1 w2 := by rw [hw2]; exact (Keeps.refl _ _).alloc _
  have k12 := k1.trans k2 (fun _ _ h => h)
  have T2 : Two w2 B := Two.keep ⟨q0, q1, q2, q3⟩ k2 (fun h => h)
  have hb2 : RdB w2 (B + 1) A l := fun h0 => by
    obtain ⟨b, off, e, hbs, hcs⟩ := h h0
    exact ⟨b, off, e, by omega, fun k hk => (k12.cell (by omega) (fun h => h)).trans (hcs k hk)⟩
  have R2 : Rdr w2 (B + 1) ⟨l, 0⟩ := ⟨A, c, by rw [r0, hn], r1, r2, r3, hb2, hlc, hc, ok⟩
  have CC := code_any w hw (B + 1) (by omega) ⟨l, 0⟩ w2 k12 R2
  obtain ⟨T, hT⟩ : ∃ T, T = codeE ⟨l, 0⟩ := ⟨_, rfl⟩
  have TE : Hid (TakeE l w = TakeP T w) := Lib.hid (by rw [hT]; rfl)
  rw [← hT] at CC
  obtain ⟨⟨t1, te⟩, tL, tZ⟩ := T
  have CC := Lib.hid CC
  have HB := Lib.hid hB
  have S1 := Lib.hid s1
  have HT2 := Lib.hid T2
  have K12 := Lib.hid k12
  have hws : w2.heap.size = B + 2 := by rw [hw2]; simp; omega
  have HS2 := Lib.hid hws
  have HW1 := Lib.hid hw1
  have HW2 := Lib.hid hw2
  rw [TE.out]
  rw [← hn]
  clear q0 q1 q2 q3 r0 r1 r2 r3 k1 k2 k12 T2 hb2 R2 hT hw1 hw2 hB s1 h hn hws hw
  go_enter Tryd.func30, Tryd.ntmps30
  go_wp2_with fail
  rw [← HW1.out, ← HW2.out, ← HB.out]
  refine CC.out.mono ?_
  rintro e w3 ⟨⟨vI, vE, rfl, oI, oE, gI, gE⟩, ⟨A3, c3, rs⟩, k3⟩
  have T3 := HT2.out.keep k3 (by omega)
  have d0 := rs.c0
  have d1 := rs.c1
  have e1 := rs.f1
  have a0 := T3.c0
  have a1 := T3.c1
  have b0 := T3.f0
  have b1 := T3.f1
  have hB3 := T3.lt
  have hR3 : B + 1 < w3.heap.size := cell_ltk d0
  have KK : Hid (Keeps (fun p => B ≤ p) w w3) := Lib.hid ((K12.out.mono (fun _ _ h => h.elim)).trans (k3.mono (T := fun p => B ≤ p) (fun _ _ e => by omega)) (fun _ _ h => h))
  have OI := Lib.hid oI
  have OE := Lib.hid oE
  have GI := Lib.hid gI
  have GE := Lib.hid gE
  obtain ⟨AI, cI, hvI⟩ := own_formk oI
  obtain ⟨AE, cE, hvE⟩ := own_formk oE
  obtain ⟨ln, hln⟩ : ∃ ln, ln = tL.length := ⟨_, rfl⟩
  obtain ⟨zn, hzn⟩ : ∃ zn, zn = tZ.length := ⟨_, rfl⟩
  obtain ⟨tn, htn⟩ : ∃ tn, tn = t1.length := ⟨_, rfl⟩
  rw [← hln] at hvI
  rw [← hzn] at hvE
  have d0 : w3.cell? ⟨B + 1, 0, none⟩ = some (.slice A3 tn c3) := by rw [htn]; exact d0
  have d1 : w3.cell? ⟨B + 1, 1, none⟩ = some (.int .i64 (te : Int)) := d1
  rw [hvI, hvE]
  rw [hvI] at OI GI
  rw [hvE] at OE GE
  rw [← hln] at OI
  rw [← hzn] at OE
  have HTN := Lib.hid htn
  have HLN := Lib.hid hln
  have HZN := Lib.hid hzn
  have fin : ∀ w', Keeps (fun p => B ≤ p) w3 w' → Keeps (fun _ => False) w w' := fun w' k => kback (KK.out.trans k (fun _ _ h => h)) HB.out
  have FIN := Lib.hid fin
  have hg : ∀ g, (Value.slice AI ln cI).ownBlock = some g → B + 2 ≤ g := fun g hg => by have := GI.out g hg; rw [HS2.out] at this; exact this
  have hg2 : ∀ g, (Value.slice AE zn cE).ownBlock = some g → B + 2 ≤ g := fun g hg => by have := GE.out g hg; rw [HS2.out] at this; exact this
  have HG := Lib.hid hg
  have HG2 := Lib.hid hg2
  clear T3 rs k3 oI oE gI gE hvI hvE hln hzn htn fin hg hg2 CC HT2 TE
  by_cases h0 : te = 0
  · subst h0
    have d1 : w3.cell? ⟨B + 1, 1, none⟩ = some (.int .i64 0) := d1
    by_cases h1 : 0 < tn
    · have h1I : (0 : Int) < (tn : Int) := by omega
      have h1d : decide ((0 : Int) < (tn : Int)) = true := decide_eq_true h1I
      have hne : t1 ≠ [] := fun e => by have := HTN.out; rw [e] at this; simp at this; omega
      have PF : Hid (∀ w', Keeps (fun p => B ≤ p) w3 w' → TakeP ((⟨t1, 0⟩ : RS), tL, tZ) w (.returned (.tuple #[.agg #[.slice none 0 0, .slice none 0 0], .int .i64 3])) w') := Lib.hid (fun w' k => ⟨by rw [if_neg (fun h => hne h.2)]; rfl, FIN.out w' k⟩)
      clear hne
      go_wp2
      go_region
      go_wp2
      refine bodyPost_ret (v := .tuple #[.agg #[.slice none 0 0, .slice none 0 0], .int .i64 3]) ?_ rfl ?_
      · rw [results_cell_tmp rfl]
        go_simp
      · exact PF.out _ (((((Keeps.refl (fun p => B ≤ p) w3).setCell (p := ⟨B + 1, 1, none⟩) (fun _ => Nat.le_succ B) _).setCell (p := ⟨B, 0, none⟩) (fun _ => Nat.le_refl B) _).setCell (p := ⟨B, 1, none⟩) (fun _ => Nat.le_refl B) _).alloc _).drew
    · have h1I : ¬ (0 : Int) < (tn : Int) := by omega
      have h1d : decide ((0 : Int) < (tn : Int)) = false := decide_eq_false h1I
      have ht : Hid (t1 = []) := Lib.hid (List.eq_nil_of_length_eq_zero (by rw [← HTN.out]; omega))
      have PF : Hid (∀ w', Keeps (fun p => p = B) w3 w' → TakeP ((⟨t1, 0⟩ : RS), tL, tZ) w (.returned (.tuple #[.agg #[.slice AI ln cI, .slice AE zn cE], .int .i64 0])) w') := Lib.hid (fun w' k => by
        refine ⟨?_, FIN.out w' (k.mono (fun p _ e => by omega))⟩
        rw [if_pos ⟨rfl, ht.out⟩]
        refine ⟨_, _, rfl, ?_, ?_⟩
        · rw [← HLN.out]
          exact ownsRow_keep OI.out fun g hg => k.block g (own_ltk OI.out hg) (fun e => by have := HG.out g hg; omega)
        · rw [← HZN.out]
          exact ownsRow_keep OE.out fun g hg => k.block g (own_ltk OE.out hg) (fun e => by have := HG2.out g hg; omega))
      go_wp2
      refine bodyPost_ret (v := .tuple #[.agg #[.slice AI ln cI, .slice AE zn cE], .int .i64 0]) ?_ rfl ?_
      · rw [results_cell_tmp rfl]
        go_simp
      · exact PF.out _ ((((Keeps.refl (fun p => p = B) w3).setCell (p := ⟨B, 0, none⟩) (fun _ => rfl) _).setCell (p := ⟨B, 1, none⟩) (fun _ => rfl) _).alloc _)
  · have h0I : ¬ (te : Int) = 0 := by omega
    have h0d : decide ((te : Int) = 0) = false := decide_eq_false h0I
    obtain ⟨ev, hev⟩ : ∃ ev, ev = (te : Int) := ⟨_, rfl⟩
    rw [← hev] at d1 h0I h0d
    have HEV := Lib.hid hev
    have H0 := Lib.hid h0
    have PF : Hid (∀ w', Keeps (fun p => B ≤ p) w3 w' → TakeP ((⟨t1, te⟩ : RS), tL, tZ) w (.returned (.tuple #[.agg #[.slice none 0 0, .slice none 0 0], .int .i64 ev])) w') := Lib.hid (fun w' k => ⟨by rw [if_neg (fun h => H0.out h.1), HEV.out]; show _ = Ending.returned (.tuple #[_, .int .i64 (if te = 0 then 3 else (te : Int))]); rw [if_neg H0.out], FIN.out w' k⟩)
    clear hev h0
    go_wp2
    go_region
    go_wp2
    refine bodyPost_ret (v := .tuple #[.agg #[.slice none 0 0, .slice none 0 0], .int .i64 ev]) ?_ rfl ?_
    · rw [results_cell_tmp rfl]
      go_simp
      exact HEV.out.symm
    · exact PF.out _ ((((Keeps.refl (fun p => B ≤ p) w3).setCell (p := ⟨B, 0, none⟩) (fun _ => Nat.le_refl B) _).setCell (p := ⟨B, 1, none⟩) (fun _ => Nat.le_refl B) _).alloc _).drew
end Go.Proofs.YtoombjbpblighaaDoor
