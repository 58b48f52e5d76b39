/-
  Layer 1: the walk of LexBlanks. Written by an AI agent.
-/
import Derived.Test.YtoombjbpblighaaDoorLxUa
import Derived.BigQuiet
namespace Go.Proofs.YtoombjbpblighaaDoor
open Go.RowKit Go.Shelf
set_option linter.unusedVariables false
set_option linter.unusedSimpArgs false

/-- A gap that grows by blanks. -/
def GapOf (b : List UInt8) (k : Nat) (x : ByteArray) : Prop := x.data.toList = 32 :: (List.replicate k b).flatten
theorem GapOf.zero (b : List UInt8) : GapOf b 0 { data := #[32] } := rfl
theorem GapOf.more {b : List UInt8} {k : Nat} {x y : ByteArray} (h : GapOf b k x) (hy : y.data.toList = b) : GapOf b (k + 1) (x ++ y) := by
  unfold GapOf at h ⊢
  rw [app_list, h, hy, List.replicate_succ', List.flatten_append]
  simp
theorem GapOf.size {b : List UInt8} {k : Nat} {x : ByteArray} (h : GapOf b k x) : x.size = 1 + k * b.length := by
  rw [← len_size, h, List.length_cons]
  have : ((List.replicate k b).flatten).length = k * b.length := by
    induction k with
    | zero => simp
    | succ k ih => simp
  omega
theorem GapOf.lex {b : List UInt8} {k : Nat} {x : ByteArray} (h : GapOf b k x) (hb : b ∈ blanksL) (s : ByteArray) :
    lexL (x ++ s).data.toList 0 = ((lexL s.data.toList 0).1.map (Tok.up x.size), (lexL s.data.toList 0).2.map (fun q => (q.1 + x.size, q.2))) := by
  rw [h.size, app_list, h, List.cons_append, lexL_blank (by decide), lex_gap hb, ← lexL_shift]
  congr 1
  omega

theorem lex_pos (l : List UInt8) (p : Nat) : ∀ t ∈ (lexL l p).1, t.p ≤ p + l.length := by
  refine lexL_ind (P := fun l p => ∀ t ∈ (lexL l p).1, t.p ≤ p + l.length) ?_ ?_ ?_ ?_ ?_ ?_ l p
  · intro p t ht
    rw [lexL_nil, List.mem_singleton] at ht
    rw [ht]
    exact Nat.le_add_right _ _
  · intro c r p h ih t ht
    rw [lexL_blank h] at ht
    have := ih t ht
    rw [List.length_cons]
    omega
  · intro c r p h h1 h2 t ht
    rw [lexL_rem_end h h1 h2, List.mem_singleton] at ht
    rw [ht]
    exact Nat.le_refl _
  · intro c r p h h1 h2 ih t ht
    rw [lexL_rem h h1 h2] at ht
    have := ih t ht
    have h3 := runL_le (fun d => !decide (d = 10)) (c :: r)
    rw [List.length_drop] at this
    omega
  · intro c r p h h1 h2 t ht
    rw [lexL_bad h h1 h2] at ht
    cases ht
  · intro c r p h h1 h2 ih t ht
    have h3 := first_size (c :: r) (by simp) h2
    rw [lexL_tok h h1 h2] at ht
    rcases List.mem_cons.1 ht with rfl | ht
    · exact Nat.le_add_right _ _
    · have := ih t ht
      rw [List.length_drop] at this
      omega

def blankB (j : Nat) : ByteArray := if j = 0 then { data := #[32] } else if j = 1 then { data := #[9] } else if j = 2 then { data := #[10] } else { data := #[47, 47, 32, 120, 32, 34, 10] }
theorem blankB_in (j : Nat) : (blankB j).data.toList ∈ blanksL ∧ (blankB j).size ≤ 7 ∧ (blankB j).data.toList.length = (blankB j).size := by
  refine ⟨?_, ?_, len_size _⟩ <;> unfold blankB
  · split
    · decide
    · split
      · decide
      · split <;> decide
  · split
    · decide
    · split
      · decide
      · split <;> decide

set_option maxRecDepth 100000 in
set_option maxHeartbeats 8000000 in
theorem blanks_walk (s : ByteArray) (a b : Int) (ha0 : 0 ≤ a) (ha1 : a < 256) (hb0 : 0 ≤ b) (hb1 : b < 256) (w : World) (he : ErrW w) :
    Calls Tryd.prog 10 #[.string s, .int .u8 a, .int .u8 b] w fun e w' => e = .returned (.bool true) ∧ Keeps (fun _ => False) w w' := by
  obtain ⟨j, hj, hj1⟩ : ∃ j : Nat, bits BinOp.and IntKind.u8 a 3 = (j : Int) ∧ j < 4 := by
    obtain ⟨x, rfl⟩ := Int.eq_ofNat_of_zero_le ha0
    exact ⟨x % 4, and3 x (by omega), by omega⟩
  obtain ⟨m, hm, hm1⟩ : ∃ m : Nat, bits BinOp.and IntKind.u8 b 15 = (m : Int) ∧ m ≤ 15 := by
    obtain ⟨x, rfl⟩ := Int.eq_ofNat_of_zero_le hb0
    exact ⟨x % 16, and15 x (by omega), by omega⟩
  have hmw : IntKind.i64.wrap (m : Int) = m := IntWalk.i64_in _ (by omega)
  have SC := Lib.hid (shown_any w he)
  have HE := Lib.hid he
  clear he
  go_enter Tryd.func10, Tryd.ntmps10
  go_wp2_with fail
  refine SC.out.mono ?_
  rintro e w1 ⟨rfl, k1⟩
  have HE1 := Lib.hid (HE.out.keep k1)
  have K1 := Lib.hid k1
  clear k1 SC HE
  go_upto_if 21 with fail
  obtain ⟨d, hd⟩ : ∃ d : Bool, d = decide ((300 : Int) < (s.size : Int)) := ⟨_, rfl⟩
  rw [← hd]
  have HD := Lib.hid hd
  clear hd
  go_cut [0] from 22 to 23 (fun s0 wx => ∃ x : ByteArray, s0 = .string x ∧ x.size ≤ 300 ∧ wx = w1)
  case first =>
    cases d with
    | true =>
      have hI : (300 : Int) < (s.size : Int) := of_decide_eq_true HD.out.symm
      have hI2 : (300 : Int) ≤ (s.size : Int) := by omega
      go_wp2
      go_meet
      exact ⟨s.extract 0 300, rfl, by rw [ext_size s 300 (by omega)]; omega, rfl⟩
    | false =>
      have hI : ¬ (300 : Int) < (s.size : Int) := of_decide_eq_false HD.out.symm
      go_wp2
      go_meet
      exact ⟨s, rfl, by omega, rfl⟩
  case rest =>
    obtain ⟨x, rfl, hx300, rfl⟩ := hcut
    cases hl2 : (lexL x.data.toList 0).2 with
    | some qe =>
      obtain ⟨q, er⟩ := qe
      have AC := Lib.hid (all_bad x (by omega) q er hl2 wc HE1.out)
      have her := (lexL_cut x.data.toList 0 q er hl2).2.2.2
      have her0 : ((er : Int) == 0) = false := by simp; omega
      clear hl2 her
      go_wp2_with fail
      refine AC.out.mono ?_
      rintro e w3 ⟨rfl, k3⟩
      have K3 := Lib.hid (K1.out.trans k3 (fun _ _ h => h))
      clear k3 AC
      go_wp2
      go_ret
      exact ⟨rfl, K3.out⟩
    | none =>
      obtain ⟨ts, hts⟩ : ∃ ts, ts = (lexL x.data.toList 0).1 := ⟨_, rfl⟩
      have hlx : lexL x.data.toList 0 = (ts, none) := by rw [hts, ← hl2]
      have hN : ts.length ≤ 301 := by
        have := tokens_le x.data.toList 0
        rw [← hts, len_size] at this
        omega
      have AC := Lib.hid (all_ok x (by omega) ts hlx wc HE1.out)
      have HLX := Lib.hid hlx
      clear hl2 hlx hts
      go_wp2_with fail
      refine AC.out.mono ?_
      rintro e w3 ⟨A, c, rfl, hr, k3⟩
      have K3 := Lib.hid (K1.out.trans k3 (fun _ _ h => h))
      have HR3 := Lib.hid hr
      have HE3 := Lib.hid (HE1.out.keep k3)
      clear k3 AC hr
      go_wp2_with fail
      have hv : (([Value.string { data := #[32] }, Value.string { data := #[9] }, Value.string { data := #[10] }, Value.string { data := #[47, 47, 32, 120, 32, 34, 10] }] : List Value)[j]'hj1) = Value.string (blankB j) := by
        have hj4 : j = 0 ∨ j = 1 ∨ j = 2 ∨ j = 3 := by omega
        rcases hj4 with rfl | rfl | rfl | rfl <;> rfl
      rw [hv]
      obtain ⟨g1, g2, g3⟩ := blankB_in j
      obtain ⟨y, hy⟩ : ∃ y, y = blankB j := ⟨_, rfl⟩
      rw [← hy] at g1 g2 g3
      rw [← hy]
      generalize hw4 : w3.alloc _ = w4
      have k4 : Keeps (fun _ => False) w3 w4 := by rw [← hw4]; exact (Keeps.refl _ _).alloc _
      have K4 := Lib.hid (K3.out.trans k4 (fun _ _ h => h))
      have HR4 := Lib.hid (HR3.out.keep k4)
      have HE4 := Lib.hid (HE3.out.keep k4)
      have HB := Lib.hid g1
      have HL3 := Lib.hid g3
      clear hv hy hw4 k4 K3 HR3 HE3 g1 g3
      go_loopw [12, 13] (fun s12 s13 wr => ∃ (k : Nat) (g : ByteArray), k ≤ m ∧ s12 = .string g ∧ s13 = .int .i64 k ∧ GapOf y.data.toList k g ∧ wr = w4) (fun _ s13 _ => 16 - (intOf s13).toNat)
      case atStart => exact ⟨0, _, by omega, rfl, rfl, GapOf.zero _, rfl⟩
      case round =>
        obtain ⟨k, g, hk, rfl, rfl, hg, hw⟩ := hrel
        obtain rfl : w4 = wr := hw.symm
        have hgs := hg.size
        have hg106 : g.size ≤ 106 := by
          rw [hgs, HL3.out]
          have : k * y.size ≤ 15 * 7 := Nat.mul_le_mul (by omega) g2
          omega
        have HG := Lib.hid hg
        clear hg hw hgs
        by_cases hkm : k < m
        · have hI : (k : Int) < (m : Int) := by omega
          have hd : decide ((k : Int) < (m : Int)) = true := decide_eq_true hI
          have HM := Lib.hid (HG.out.more (y := y) rfl)
          go_wp2
          go_roundw
          case rel => exact ⟨k + 1, _, by omega, rfl, by go_num, HM.out, by first | rfl | trivial⟩
          case measure => simp [intOf]; omega
        · have hI : ¬ (k : Int) < (m : Int) := by omega
          have hd : decide ((k : Int) < (m : Int)) = false := decide_eq_false hI
          have hlg := HG.out.lex HB.out x
          rw [HLX.out] at hlg
          obtain ⟨z, hz⟩ : ∃ z : ByteArray, z = g ++ x := ⟨_, rfl⟩
          have hzs : z.size ≤ 600 := by rw [hz, ByteArray.size_append]; omega
          rw [← hz] at hlg
          have HZ := Lib.hid hz
          have AC := Lib.hid (all_ok z hzs (ts.map (Tok.up g.size)) hlg w4 HE4.out)
          rw [List.length_map] at AC
          have HP : Hid (∀ i, i < ts.length → ((ts.map (Tok.up g.size)).getD i default = (ts.getD i default).up g.size) ∧ (ts.getD i default).p ≤ 300) := by
            refine Lib.hid fun i hi => ⟨?_, ?_⟩
            · simp [List.getD, hi]
            · have h1 := lex_pos x.data.toList 0 (ts.getD i default) (by rw [HLX.out]; simp [List.getD, hi])
              rw [len_size] at h1
              omega
          have hsum : ¬ (600 : Int) < (g.size : Int) + (x.size : Int) := by omega
          have hsumd : decide ((600 : Int) < (g.size : Int) + (x.size : Int)) = false := decide_eq_false hsum
          clear hlg hz hzs
          go_wp2_with fail
          rw [← HZ.out]
          refine AC.out.mono ?_
          rintro e w5 ⟨A5, c5, rfl, hr, k5⟩
          have K5 := Lib.hid (K4.out.trans k5 (fun _ _ h => h))
          have HR5 := Lib.hid hr
          have HL5 := Lib.hid (HR4.out.keep k5)
          clear k5 AC hr
          go_wp2_with fail
          go_loopw [17] (fun s17 wr => ∃ (i n : Nat), i ≤ ts.length ∧ s17 = .int .i64 i ∧ wr = w5.drewN n) (fun s17 _ => ts.length - (intOf s17).toNat)
          case atStart => exact ⟨0, 0, by omega, rfl, rfl⟩
          case round =>
            obtain ⟨i, n, hi, rfl, hw⟩ := hrel
            have kw : Keeps (fun _ => False) w5 wr := by rw [hw]; exact drew_keeps w5 n
            have HW := Lib.hid hw
            clear hw
            by_cases hiN : i < ts.length
            · have hI : (i : Int) < (ts.length : Int) := by omega
              have hi0 : (0 : Int) ≤ (i : Int) := by omega
              have hdi : decide ((i : Int) < (ts.length : Int)) = true := decide_eq_true hI
              obtain ⟨ba, oa, rfl, ha⟩ := HL5.out.cellsAt hiN
              obtain ⟨bb, ob, rfl, hb⟩ := HR5.out.cellsAt (i := i) (by rw [List.length_map]; exact hiN)
              obtain ⟨hup, hp⟩ := HP.out i hiN
              rw [hup] at hb
              obtain ⟨tk, htk⟩ : ∃ t : Tok, t = ts.getD i default := ⟨_, rfl⟩
              rw [← htk] at ha hb hp
              obtain ⟨tk, tx, tp⟩ := tk
              have b2 : wr.cell? ⟨bb, ob + i * 3 + 2, none⟩ = some (.int .i64 ((tp + g.size : Nat) : Int)) := (hb wr kw).2.2
              have b0 : wr.cell? ⟨bb, ob + i * 3, none⟩ = some (.int .i64 (tk : Int)) := (hb wr kw).1
              have b1 : wr.cell? ⟨bb, ob + i * 3 + 1, none⟩ = some (.string (ofL tx)) := (hb wr kw).2.1
              have a2 : wr.cell? ⟨ba, oa + i * 3 + 2, none⟩ = some (.int .i64 (tp : Int)) := (ha wr kw).2.2
              have a0 : wr.cell? ⟨ba, oa + i * 3, none⟩ = some (.int .i64 (tk : Int)) := (ha wr kw).1
              have a1 : wr.cell? ⟨ba, oa + i * 3 + 1, none⟩ = some (.string (ofL tx)) := (ha wr kw).2.1
              obtain ⟨T, hT⟩ : ∃ T : ByteArray, T = ofL tx := ⟨_, rfl⟩
              rw [← hT] at a1 b1
              have hp : tp ≤ 300 := hp
              have sw : IntKind.i64.wrap ((tp : Int) + (g.size : Int)) = ((tp + g.size : Nat) : Int) := by rw [IntWalk.i64_in _ (by omega)]; omega
              have q0 : ((tk : Int) != (tk : Int)) = false := by simp
              have q1 : (T.toList != T.toList) = false := by simp
              have q2 : (((tp + g.size : Nat) : Int) != ((tp + g.size : Nat) : Int)) = false := by simp
              clear ha hb htk hup hT
              go_wp2_with fail
              go_quiet (fail)
              go_wp2
              go_roundw
              case rel => exact ⟨i + 1, n + nq, by omega, by go_num, by rw [HW.out, World.drewN_drewN]⟩
              case measure => simp [intOf]; omega
            · have hI : ¬ (i : Int) < (ts.length : Int) := by omega
              have hdi : decide ((i : Int) < (ts.length : Int)) = false := decide_eq_false hI
              have K6 := Lib.hid (K5.out.trans kw (fun _ _ h => h))
              clear kw
              go_wp2
              go_ret
              exact ⟨rfl, K6.out⟩

end Go.Proofs.YtoombjbpblighaaDoor
