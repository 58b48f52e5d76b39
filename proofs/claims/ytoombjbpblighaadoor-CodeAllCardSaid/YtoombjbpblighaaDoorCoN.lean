/-
  Layer 8: the walk of CodeNames. Written by an AI agent.
-/
import Derived.Test.YtoombjbpblighaaDoorCoE
namespace Go.Proofs.YtoombjbpblighaaDoor
open Go Go.RowKit Go.Shelf
set_option linter.unusedVariables false
set_option linter.unusedSimpArgs false

theorem few_size (x : Ins) : x.few.s.size ≤ 50 := by
  show (if 50 < x.s.size then x.s.extract 0 50 else x.s).size ≤ 50
  by_cases h : 50 < x.s.size
  · rw [if_pos h, ext_size _ _ (by omega)]
    omega
  · rw [if_neg h]
    omega
theorem four_new (w : World) (x : Ins) (t : TypeId) {p : Nat} (h : w.heap.size = p) : (w.alloc (.cells #[.int .i64 x.o, .int .i64 x.a, .int .i64 x.b, .string x.s] t)).cell? ⟨p, 0, none⟩ = some (.int .i64 x.o) ∧ (w.alloc (.cells #[.int .i64 x.o, .int .i64 x.a, .int .i64 x.b, .string x.s] t)).cell? ⟨p, 1, none⟩ = some (.int .i64 x.a) ∧ (w.alloc (.cells #[.int .i64 x.o, .int .i64 x.a, .int .i64 x.b, .string x.s] t)).cell? ⟨p, 2, none⟩ = some (.int .i64 x.b) ∧ (w.alloc (.cells #[.int .i64 x.o, .int .i64 x.a, .int .i64 x.b, .string x.s] t)).cell? ⟨p, 3, none⟩ = some (.string x.s) := by
  subst h
  exact ⟨by simp, by simp, by simp, by simp⟩
theorem eight_read (w : World) (x y : Ins) : RdI (w.alloc (.cells #[.int .i64 x.o, .int .i64 x.a, .int .i64 x.b, .string x.s, .int .i64 y.o, .int .i64 y.a, .int .i64 y.b, .string y.s] 52)) (some ⟨w.heap.size, 0, none⟩) [x, y] := fun _ => by
  refine ⟨w.heap.size, 0, rfl, fun k hk => ?_⟩
  have hk2 : k = 0 ∨ k = 1 := by simp at hk; omega
  rcases hk2 with rfl | rfl
  · exact ⟨by simp, by simp, by simp, by simp⟩
  · exact ⟨by simp, by simp, by simp, by simp⟩

theorem eq52 (a b c : Int) (s : ByteArray) (a' b' c' : Int) (s' : ByteArray) (w : World) : (Op.equalIn 10000 52 (.agg #[.int .i64 a, .int .i64 b, .int .i64 c, .string s]) (.agg #[.int .i64 a', .int .i64 b', .int .i64 c', .string s'])).run Tryd.prog w = .ok ((a == a') && ((b == b') && ((c == c') && (s.toList == s'.toList)))) w := by
  have hS : Tryd.prog.underlying 52 = some (.struct (Tryd.prog.fieldsOf 52)) := by kernel_rfl
  have hp : Tryd.prog.stoodInHeld 52 = false := by kernel_rfl
  rw [show (10000 : Nat) = 9999 + 1 from rfl, run_equalIn_agg w 9999 52 _ _ hS hp]
  simp only [Program.fieldsOf, Tryd.underlying52]
  go_simp
  cases h1 : (a == a') <;> cases h2 : (b == b') <;> cases h4 : (c == c') <;> cases h3 : (s.toList == s'.toList) <;> simp_all
theorem guard52 : Tryd.prog.eqGuardType Tryd.prog.depth 52 = false := by kernel_rfl
theorem eql52 (a b c : Int) (s : ByteArray) (a' b' c' : Int) (s' : ByteArray) (w : World) : (binOp .eql 52 (.agg #[.int .i64 a, .int .i64 b, .int .i64 c, .string s]) (.agg #[.int .i64 a', .int .i64 b', .int .i64 c', .string s'])).run Tryd.prog w = .ok (.bool ((a == a') && ((b == b') && ((c == c') && (s.toList == s'.toList))))) w := by
  have h := run_eql_struct (P := Tryd.prog) w 52 #[.int .i64 a, .int .i64 b, .int .i64 c, .string s] #[.int .i64 a', .int .i64 b', .int .i64 c', .string s']
  rw [eq52] at h
  exact h

set_option maxRecDepth 100000 in
set_option maxHeartbeats 8000000 in
theorem names_walk (x y : Ins) (h0 : -9223372036854775808 ≤ x.o) (h1 : x.o ≤ 9223372036854775807) (ha0 : -9223372036854775808 ≤ x.a) (ha1 : x.a ≤ 9223372036854775807) (hb0 : -9223372036854775808 ≤ x.b) (hb1 : x.b ≤ 9223372036854775807)
    (g0 : -9223372036854775808 ≤ y.o) (g1 : y.o ≤ 9223372036854775807) (ga0 : -9223372036854775808 ≤ y.a) (ga1 : y.a ≤ 9223372036854775807) (gb0 : -9223372036854775808 ≤ y.b) (gb1 : y.b ≤ 9223372036854775807) (w : World) (hw : CodeW w) :
    Calls Tryd.prog 13 #[.agg #[.int .i64 x.o, .int .i64 x.a, .int .i64 x.b, .string x.s], .agg #[.int .i64 y.o, .int .i64 y.a, .int .i64 y.b, .string y.s]] w fun e w' => e = .returned (.bool true) ∧ Keeps (fun _ => False) w w' := by
  have HW := Lib.hid hw
  have hxs := few_size x
  have hys := few_size y
  have ho : x.few.o = x.o ∧ x.few.a = x.a ∧ x.few.b = x.b ∧ y.few.o = y.o ∧ y.few.a = y.a ∧ y.few.b = y.b := ⟨rfl, rfl, rfl, rfl, rfl, rfl⟩
  obtain ⟨X, hX⟩ : ∃ X, X = x.few := ⟨_, rfl⟩
  obtain ⟨Y, hY⟩ : ∃ Y, Y = y.few := ⟨_, rfl⟩
  rw [← hX] at hxs ho
  rw [← hY] at hys ho
  have HO := Lib.hid ho
  have HXY := Lib.hid (And.intro hX hY)
  clear hw ho hX hY
  have SC : Hid (∀ o1 o2, Calls Tryd.prog 25 #[] ((w.alloc o1).alloc o2) fun e w' => e = .returned (.bool true) ∧ Keeps (fun _ => False) ((w.alloc o1).alloc o2) w') := Lib.hid fun o1 o2 => shown8_any _ (HW.out.keep (((Keeps.refl _ _).alloc _).alloc _))
  go_enter Tryd.func13, Tryd.ntmps13
  go_wp2_with fail
  refine (SC.out _ _).mono ?_
  rintro e w1 ⟨rfl, k1⟩
  obtain ⟨p0, p1, p2, p3⟩ := four_new w x 52 rfl
  obtain ⟨q0, q1, q2, q3⟩ := four_new (w.alloc (.cells #[.int .i64 x.o, .int .i64 x.a, .int .i64 x.b, .string x.s] 52)) y 52 (p := w.heap.size + 1) (by simp)
  have hz : ((w.alloc (.cells #[.int .i64 x.o, .int .i64 x.a, .int .i64 x.b, .string x.s] 52)).alloc (.cells #[.int .i64 y.o, .int .i64 y.a, .int .i64 y.b, .string y.s] 52)).heap.size = w.heap.size + 2 := by simp
  have c0 := ((k1.cell (b := w.heap.size) (o := 0) (by omega) (fun h => h)).trans (cell_under _ _ _ (by simp))).trans p0
  have c1 := ((k1.cell (b := w.heap.size) (o := 1) (by omega) (fun h => h)).trans (cell_under _ _ _ (by simp))).trans p1
  have c2 := ((k1.cell (b := w.heap.size) (o := 2) (by omega) (fun h => h)).trans (cell_under _ _ _ (by simp))).trans p2
  have c3 := ((k1.cell (b := w.heap.size) (o := 3) (by omega) (fun h => h)).trans (cell_under _ _ _ (by simp))).trans p3
  have d0 := (k1.cell (b := w.heap.size + 1) (o := 0) (by omega) (fun h => h)).trans q0
  have d1 := (k1.cell (b := w.heap.size + 1) (o := 1) (by omega) (fun h => h)).trans q1
  have d2 := (k1.cell (b := w.heap.size + 1) (o := 2) (by omega) (fun h => h)).trans q2
  have d3 := (k1.cell (b := w.heap.size + 1) (o := 3) (by omega) (fun h => h)).trans q3
  have K1 : Hid (Keeps (fun _ => False) w w1) := Lib.hid ((((Keeps.refl _ _).alloc _).alloc _).trans k1 (fun _ _ h => h))
  clear p0 p1 p2 p3 q0 q1 q2 q3 hz k1 SC
  have FC := few_any (some ⟨w1.heap.size, 0, none⟩) 2 [x, y] none 0 0 (Nat.le_refl _) (by omega) (by show 2 ≤ 9223372036854775807; omega) _ (eight_read w1 x y)
  have FC : Calls Tryd.prog 26 #[.agg #[.slice (some ⟨w1.heap.size, 0, none⟩) 2 2, .slice none 0 0]] (w1.alloc (.cells #[.int .i64 x.o, .int .i64 x.a, .int .i64 x.b, .string x.s, .int .i64 y.o, .int .i64 y.a, .int .i64 y.b, .string y.s] 52)) fun e w' => (∃ A c', e = .returned (.agg #[.slice A 2 c', .slice none 0 0]) ∧ w'.ownsRow 0 52 4 (.slice A 2 c') 2 (flatI [X, Y])) ∧ Keeps (fun _ => False) w1 w' := FC.mono fun e w' h => by
    obtain ⟨⟨A, c', e1, o, _⟩, k⟩ := h
    refine ⟨⟨A, c', e1, ?_⟩, ((Keeps.refl _ _).alloc _).trans k (fun _ _ h => h)⟩
    rw [HXY.out.1, HXY.out.2]
    exact o
  have HFC := Lib.hid FC
  clear FC
  go_wp2_with fail
  refine HFC.out.mono ?_
  rintro e w2 ⟨⟨A, c', rfl, o2⟩, k2⟩
  have hA : ∃ g, A = some ⟨g, 0, none⟩ := by
    rcases o2.2 with ⟨_, h1⟩ | ⟨g, cap, cur, e1, _⟩
    · cases h1
    · simp only [Value.slice.injEq] at e1
      exact ⟨g, e1.1⟩
  obtain ⟨g, rfl⟩ := hA
  have hfl : ∀ k, k < 8 → w2.cell? ⟨g, k, none⟩ = (flatI [X, Y])[k]? := fun k hk => o2.cellAt k hk
  have x0 : w2.cell? ⟨g, 0, none⟩ = some (.int .i64 X.o) := hfl 0 (by omega)
  have x1 : w2.cell? ⟨g, 1, none⟩ = some (.int .i64 X.a) := hfl 1 (by omega)
  have x2 : w2.cell? ⟨g, 2, none⟩ = some (.int .i64 X.b) := hfl 2 (by omega)
  have x3 : w2.cell? ⟨g, 3, none⟩ = some (.string X.s) := hfl 3 (by omega)
  have y0 : w2.cell? ⟨g, 4, none⟩ = some (.int .i64 Y.o) := hfl 4 (by omega)
  have y1 : w2.cell? ⟨g, 4 + 1, none⟩ = some (.int .i64 Y.a) := hfl 5 (by omega)
  have y2 : w2.cell? ⟨g, 4 + 2, none⟩ = some (.int .i64 Y.b) := hfl 6 (by omega)
  have y3 : w2.cell? ⟨g, 4 + 3, none⟩ = some (.string Y.s) := hfl 7 (by omega)
  have hg := cell_ltk x0
  have K2 := Lib.hid (K1.out.trans k2 (fun _ _ h => h))
  clear hfl o2 k2 HFC c0 c1 c2 c3 d0 d1 d2 d3
  go_wp2_with fail
  obtain ⟨p0, p1, p2, p3⟩ := four_new (w2.alloc (.cells #[.slice (some ⟨g, 0, none⟩) 2 c', .slice none 0 0] 41)) X 52 (p := w2.heap.size + 1) (by simp)
  obtain ⟨q0, q1, q2, q3⟩ := four_new ((w2.alloc (.cells #[.slice (some ⟨g, 0, none⟩) 2 c', .slice none 0 0] 41)).alloc (.cells #[.int .i64 X.o, .int .i64 X.a, .int .i64 X.b, .string X.s] 52)) Y 52 (p := w2.heap.size + 1 + 1) (by simp)
  generalize hw5 : World.alloc (World.alloc (World.alloc w2 _) _) _ = w5
  rw [hw5] at q0 q1 q2 q3
  have c0 : w5.cell? ⟨w2.heap.size + 1, 0, none⟩ = some (.int .i64 X.o) := by rw [← hw5]; exact (cell_under _ _ _ (by simp)).trans p0
  have c1 : w5.cell? ⟨w2.heap.size + 1, 1, none⟩ = some (.int .i64 X.a) := by rw [← hw5]; exact (cell_under _ _ _ (by simp)).trans p1
  have c2 : w5.cell? ⟨w2.heap.size + 1, 2, none⟩ = some (.int .i64 X.b) := by rw [← hw5]; exact (cell_under _ _ _ (by simp)).trans p2
  have c3 : w5.cell? ⟨w2.heap.size + 1, 3, none⟩ = some (.string X.s) := by rw [← hw5]; exact (cell_under _ _ _ (by simp)).trans p3
  have K5 : Hid (Keeps (fun _ => False) w w5) := Lib.hid (by rw [← hw5]; exact ((K2.out.alloc _).alloc _).alloc _)
  obtain ⟨pa, hpa⟩ : ∃ pa, pa = w2.heap.size + 1 := ⟨_, rfl⟩
  obtain ⟨pb, hpb⟩ : ∃ pb, pb = w2.heap.size + 1 + 1 := ⟨_, rfl⟩
  rw [← hpb] at q0 q1 q2 q3 ⊢
  rw [← hpa] at c0 c1 c2 c3 ⊢
  have hba := cell_ltk c0
  have hbb := cell_ltk q0
  have CS : Hid (w5.cell? ⟨pa, 0, none⟩ = some (.int .i64 X.o) ∧ w5.cell? ⟨pa, 1, none⟩ = some (.int .i64 X.a) ∧ w5.cell? ⟨pa, 2, none⟩ = some (.int .i64 X.b) ∧ w5.cell? ⟨pa, 3, none⟩ = some (.string X.s) ∧
    w5.cell? ⟨pb, 0, none⟩ = some (.int .i64 Y.o) ∧ w5.cell? ⟨pb, 1, none⟩ = some (.int .i64 Y.a) ∧ w5.cell? ⟨pb, 2, none⟩ = some (.int .i64 Y.b) ∧ w5.cell? ⟨pb, 3, none⟩ = some (.string Y.s)) := Lib.hid ⟨c0, c1, c2, c3, q0, q1, q2, q3⟩
  have HBA := Lib.hid hba
  have HBB := Lib.hid hbb
  clear p0 p1 p2 p3 hw5 hpa hpb c0 c1 c2 c3 q0 q1 q2 q3 x0 x1 x2 x3 y0 y1 y2 y3 hg hba hbb
  go_loopw [9] (fun s9 wr => ∃ (i : Nat), i ≤ 25 ∧ s9 = .int .i64 i ∧ Keeps (fun _ => False) w5 wr) (fun s9 _ => 26 - (intOf s9).toNat)
  case atStart => exact ⟨0, by omega, rfl, Keeps.refl _ _⟩
  case round =>
    obtain ⟨i, hi, rfl, kr⟩ := hrel
    have KR := Lib.hid kr
    clear kr
    by_cases h24 : i ≤ 24
    · have h24I : (i : Int) ≤ 24 := by omega
      have h24d : decide ((i : Int) ≤ 24) = true := decide_eq_true h24I
      have NC := Lib.hid (name_op (i : Int) wr (HW.out.keep (K5.out.trans KR.out (fun _ _ h => h))))
      obtain ⟨T, hT⟩ : ∃ T : ByteArray, T = ofL (nameN (i : Int)) := ⟨_, rfl⟩
      have hTl : T.data.toList = nameN (i : Int) := by rw [hT, ofL_list]
      rw [← hT] at NC
      have hem := empty_iff T
      obtain ⟨z, hz⟩ : ∃ z : Bool, z = decide (T.size = 0) := ⟨_, rfl⟩
      have hzi : z = true ↔ (i = 0 ∨ i = 24) := by
        rw [hz, decide_eq_true_eq, ← len_size, hTl, List.length_eq_zero_iff]
        constructor
        · intro h
          by_cases h2 : 1 ≤ (i : Int) ∧ (i : Int) ≤ 23
          · exact absurd h (name_some h2)
          · omega
        · intro h
          unfold nameN
          rw [if_neg (by omega)]
      rw [← hz] at hem
      have HTL := Lib.hid hTl
      have HZ := Lib.hid hz
      have HZI := Lib.hid hzi
      clear hT hTl hz hzi
      go_wp2_with fail
      refine NC.out.mono ?_
      rintro e w6 ⟨rfl, k6⟩
      have K6 := Lib.hid (KR.out.trans k6 (fun _ _ h => h))
      clear k6 NC
      go_upto_region 9 with fail
      go_cut [41] from 33 to 41 (fun s41 wx => s41 = .bool false ∧ wx = w6)
      case first =>
        by_cases i0 : i = 0
        · have e0 : ((i : Int) == 0) = true := by simp; omega
          have hzt : z = true := HZI.out.2 (.inl i0)
          rw [hzt] at hem
          have I0 := Lib.hid i0
          clear hzt i0
          go_wp2
          go_meet
          exact ⟨rfl, rfl⟩
        · have e0 : ((i : Int) == 0) = false := by simp; omega
          by_cases i24 : i = 24
          · have e24 : ((i : Int) == 24) = true := by simp; omega
            have hzt : z = true := HZI.out.2 (.inr i24)
            rw [hzt] at hem
            have I24 := Lib.hid i24
            clear hzt i24
            go_wp2
            go_meet
            exact ⟨rfl, rfl⟩
          · have e24 : ((i : Int) == 24) = false := by simp; omega
            have hzt : z = false := by
              cases hzz : z with
              | false => rfl
              | true => have := HZI.out.1 hzz; omega
            rw [hzt] at hem
            clear hzt
            go_wp2
            go_meet
            exact ⟨rfl, rfl⟩
      case rest =>
        obtain ⟨rfl, hw⟩ := hcut
        obtain rfl : w6 = wc := hw.symm
        clear hw
        have hTs : T.size ≤ 6 := by have := name_le (i : Int); rw [← HTL.out, len_size] at this; exact this
        go_wp2_with fail
        go_loopw [11] (fun s11 wx => ∃ (k : Nat), k ≤ T.size ∧ s11 = .int .i64 k ∧ wx = w6) (fun s11 _ => T.size + 1 - (intOf s11).toNat)
        case atStart => exact ⟨0, Nat.zero_le _, rfl, rfl⟩
        case round =>
          obtain ⟨k, hk, rfl, hw⟩ := hrel
          obtain rfl : w6 = _ := hw.symm
          clear hw
          by_cases hkT : k < T.size
          · have hkI : (k : Int) < (T.size : Int) := by omega
            have hkd : decide ((k : Int) < (T.size : Int)) = true := decide_eq_true hkI
            have hk0 : (0 : Int) ≤ (k : Int) := by omega
            have hlet := name_letters (i : Int) T[k] (by rw [← HTL.out]; exact List.mem_of_getElem? (at_byte T k hkT))
            have l1 : ¬ (T[k].toNat : Int) < 97 := by omega
            have l1d : decide ((T[k].toNat : Int) < 97) = false := decide_eq_false l1
            have l2 : ¬ (122 : Int) < (T[k].toNat : Int) := by omega
            have l2d : decide ((122 : Int) < (T[k].toNat : Int)) = false := decide_eq_false l2
            clear hlet
            go_wp2
            go_roundw
            case rel => exact ⟨k + 1, by omega, by go_num, by first | rfl | trivial⟩
            case measure => simp [intOf]; omega
          · have hkd : decide ((k : Int) < (T.size : Int)) = false := decide_eq_false (by omega)
            go_wp2_with fail
            go_loopw [12] (fun s12 wx => ∃ (j : Nat), 1 ≤ j ∧ j ≤ 26 ∧ s12 = .int .i64 j ∧ Keeps (fun _ => False) w6 wx) (fun s12 _ => 27 - (intOf s12).toNat)
            case atStart => exact ⟨1, Nat.le_refl _, by omega, rfl, Keeps.refl _ _⟩
            case round =>
              obtain ⟨j, hj1, hj, rfl, kj⟩ := hrel
              obtain ⟨wz, rfl⟩ : ∃ wz, wz = wr := ⟨_, rfl⟩
              have KJ := Lib.hid (K6.out.trans kj (fun _ _ h => h))
              have KJ6 := Lib.hid kj
              clear kj
              by_cases hji : j < i
              · have hjI : (j : Int) < (i : Int) := by omega
                have hjd : decide ((j : Int) < (i : Int)) = true := decide_eq_true hjI
                cases z with
                | true =>
                  go_wp2
                  go_roundw
                  case rel => exact ⟨j + 1, by omega, by omega, by go_num, KJ6.out⟩
                  case measure => simp [intOf]; omega
                | false =>
                  have NJ := Lib.hid (name_op (j : Int) wz (HW.out.keep (K5.out.trans KJ.out (fun _ _ h => h))))
                  obtain ⟨U, hU⟩ : ∃ U : ByteArray, U = ofL (nameN (j : Int)) := ⟨_, rfl⟩
                  have hUl : U.data.toList = nameN (j : Int) := by rw [hU, ofL_list]
                  rw [← hU] at NJ
                  have hne : (U.toList == T.toList) = false := by
                    rw [toList_data, toList_data, hUl, HTL.out]
                    rw [beq_eq_false_iff_ne]
                    intro e
                    have h2 : nameN (j : Int) ≠ [] := name_some ⟨by omega, by omega⟩
                    have := name_inj h2 e
                    omega
                  clear hU hUl
                  go_wp2_with fail
                  refine NJ.out.mono ?_
                  rintro e w8 ⟨rfl, k8⟩
                  have K8 := Lib.hid (KJ6.out.trans k8 (fun _ _ h => h))
                  clear k8 NJ
                  go_wp2
                  go_roundw
                  case rel => exact ⟨j + 1, by omega, by omega, by go_num, K8.out⟩
                  case measure => simp [intOf]; omega
              · have hjd : decide ((j : Int) < (i : Int)) = false := decide_eq_false (by omega)
                go_wp2
                go_roundw
                case rel => exact ⟨i + 1, by omega, by go_num, KJ.out⟩
                case measure => simp [intOf]; omega
    · have h24d : decide ((i : Int) ≤ 24) = false := decide_eq_false (by omega)
      have K7 := Lib.hid (K5.out.trans KR.out (fun _ _ h => h))
      obtain ⟨f0, f1, f2, f3, j0, j1, j2, j3⟩ := CS.out
      have c0 := (KR.out.cell (o := 0) HBA.out (fun h => h)).trans f0
      have c1 := (KR.out.cell (o := 1) HBA.out (fun h => h)).trans f1
      have c2 := (KR.out.cell (o := 2) HBA.out (fun h => h)).trans f2
      have c3 := (KR.out.cell (o := 3) HBA.out (fun h => h)).trans f3
      have e0 := (KR.out.cell (o := 0) HBB.out (fun h => h)).trans j0
      have e1 := (KR.out.cell (o := 1) HBB.out (fun h => h)).trans j1
      have e2 := (KR.out.cell (o := 2) HBB.out (fun h => h)).trans j2
      have e3 := (KR.out.cell (o := 3) HBB.out (fun h => h)).trans j3
      clear f0 f1 f2 f3 j0 j1 j2 j3
      obtain ⟨ho1, ho2, ho3, ho4, ho5, ho6⟩ := HO.out
      have HWR : Hid (∀ w', Keeps (fun _ => False) wr w' → CodeW w') := Lib.hid fun w' h => HW.out.keep (K7.out.trans h (fun _ _ h => h))
      have MA := Lib.hid (may_any X.o X.a X.b X.s (by omega) (by omega) wr (HWR.out wr (Keeps.refl _ _)))
      have MB : Hid (∀ w', Keeps (fun _ => False) wr w' → Calls Tryd.prog 33 #[.agg #[.int .i64 Y.o, .int .i64 Y.a, .int .i64 Y.b, .string Y.s]] w' fun e w'' => e = .returned (.bool (mayN Y.o Y.a Y.b Y.s)) ∧ Keeps (fun _ => False) w' w'') := Lib.hid fun w' h => may_any Y.o Y.a Y.b Y.s (by omega) (by omega) w' (HWR.out w' h)
      have LA0 : Hid (∀ w', Keeps (fun _ => False) wr w' → Calls Tryd.prog 35 #[.agg #[.int .i64 X.o, .int .i64 X.a, .int .i64 X.b, .string X.s]] w' fun e w'' => e = .returned (.string (ofL (lineN X.o X.a X.b X.s.data.toList))) ∧ Keeps (fun _ => False) w' w'') := Lib.hid fun w' h => cline_any X.o X.a X.b X.s (by omega) (by omega) (by omega) (by omega) (by omega) (by omega) (by omega) w' (HWR.out w' h)
      have LB0 : Hid (∀ w', Keeps (fun _ => False) wr w' → Calls Tryd.prog 35 #[.agg #[.int .i64 Y.o, .int .i64 Y.a, .int .i64 Y.b, .string Y.s]] w' fun e w'' => e = .returned (.string (ofL (lineN Y.o Y.a Y.b Y.s.data.toList))) ∧ Keeps (fun _ => False) w' w'') := Lib.hid fun w' h => cline_any Y.o Y.a Y.b Y.s (by omega) (by omega) (by omega) (by omega) (by omega) (by omega) (by omega) w' (HWR.out w' h)
      have hinj : mayN X.o X.a X.b X.s = true → mayN Y.o Y.a Y.b Y.s = true → ((ofL (lineN X.o X.a X.b X.s.data.toList)).toList == (ofL (lineN Y.o Y.a Y.b Y.s.data.toList)).toList) = ((X.o == Y.o) && ((X.a == Y.a) && ((X.b == Y.b) && (X.s.toList == Y.s.toList)))) := fun hx hy => by
        rw [toList_data, toList_data, ofL_list, ofL_list, toList_data, toList_data, Bool.eq_iff_iff]
        simp only [beq_iff_eq, Bool.and_eq_true]
        constructor
        · intro h
          obtain ⟨r1, r2, r3, r4⟩ := line_inj hx hy h
          exact ⟨r1, r2, r3, by rw [r4]⟩
        · rintro ⟨r1, r2, r3, r4⟩
          rw [r1, r2, r3, r4]
      obtain ⟨m1, hm1⟩ : ∃ m1, m1 = mayN X.o X.a X.b X.s := ⟨_, rfl⟩
      obtain ⟨m2, hm2⟩ : ∃ m2, m2 = mayN Y.o Y.a Y.b Y.s := ⟨_, rfl⟩
      obtain ⟨S1, hS1⟩ : ∃ S1, S1 = ofL (lineN X.o X.a X.b X.s.data.toList) := ⟨_, rfl⟩
      obtain ⟨S2, hS2⟩ : ∃ S2, S2 = ofL (lineN Y.o Y.a Y.b Y.s.data.toList) := ⟨_, rfl⟩
      rw [← hm1] at MA hinj
      rw [← hm2] at MB hinj
      rw [← hS1] at LA0 hinj
      rw [← hS2] at LB0 hinj
      have HINJ := Lib.hid hinj
      clear hm1 hm2 hS1 hS2 hinj ho1 ho2 ho3 ho4 ho5 ho6
      go_wp2_with fail
      refine MA.out.mono ?_
      rintro e w7 ⟨rfl, k7⟩
      have c0 := (k7.cell (cell_ltk c0) (fun h => h)).trans c0
      have c1 := (k7.cell (cell_ltk c1) (fun h => h)).trans c1
      have c2 := (k7.cell (cell_ltk c2) (fun h => h)).trans c2
      have c3 := (k7.cell (cell_ltk c3) (fun h => h)).trans c3
      have e0 := (k7.cell (cell_ltk e0) (fun h => h)).trans e0
      have e1 := (k7.cell (cell_ltk e1) (fun h => h)).trans e1
      have e2 := (k7.cell (cell_ltk e2) (fun h => h)).trans e2
      have e3 := (k7.cell (cell_ltk e3) (fun h => h)).trans e3
      have K77 := Lib.hid (K7.out.trans k7 (fun _ _ h => h))
      have MB7 := Lib.hid (MB.out w7 k7)
      have KR7 := Lib.hid k7
      clear k7 MA MB
      cases m1 with
      | false =>
        go_wp2
        go_ret
        exact ⟨rfl, K77.out⟩
      | true =>
        go_wp2_with fail
        refine MB7.out.mono ?_
        rintro e w8 ⟨rfl, k8⟩
        have c0 := (k8.cell (cell_ltk c0) (fun h => h)).trans c0
        have c1 := (k8.cell (cell_ltk c1) (fun h => h)).trans c1
        have c2 := (k8.cell (cell_ltk c2) (fun h => h)).trans c2
        have c3 := (k8.cell (cell_ltk c3) (fun h => h)).trans c3
        have e0 := (k8.cell (cell_ltk e0) (fun h => h)).trans e0
        have e1 := (k8.cell (cell_ltk e1) (fun h => h)).trans e1
        have e2 := (k8.cell (cell_ltk e2) (fun h => h)).trans e2
        have e3 := (k8.cell (cell_ltk e3) (fun h => h)).trans e3
        have K8 := Lib.hid (K77.out.trans k8 (fun _ _ h => h))
        have LA : Hid (∀ w', Keeps (fun _ => False) w8 w' → Calls Tryd.prog 35 #[.agg #[.int .i64 X.o, .int .i64 X.a, .int .i64 X.b, .string X.s]] w' fun e w'' => e = .returned (.string S1) ∧ Keeps (fun _ => False) w' w'') := Lib.hid fun w' h => LA0.out w' ((KR7.out.trans k8 (fun _ _ h => h)).trans h (fun _ _ h => h))
        have LB : Hid (∀ w', Keeps (fun _ => False) w8 w' → Calls Tryd.prog 35 #[.agg #[.int .i64 Y.o, .int .i64 Y.a, .int .i64 Y.b, .string Y.s]] w' fun e w'' => e = .returned (.string S2) ∧ Keeps (fun _ => False) w' w'') := Lib.hid fun w' h => LB0.out w' ((KR7.out.trans k8 (fun _ _ h => h)).trans h (fun _ _ h => h))
        clear k8 MB7 LA0 LB0
        cases m2 with
        | false =>
          go_wp2
          go_ret
          exact ⟨rfl, K8.out⟩
        | true =>
          have hq := HINJ.out (by simp) (by simp)
          have g52 := guard52
          have qe : ∀ w : World, (binOp .eql 52 (.agg #[.int .i64 X.o, .int .i64 X.a, .int .i64 X.b, .string X.s]) (.agg #[.int .i64 Y.o, .int .i64 Y.a, .int .i64 Y.b, .string Y.s])).run Tryd.prog w = .ok (.bool (S1.toList == S2.toList)) w := fun w => by rw [eql52, hq]
          clear hq
          go_wp2_with fail
          refine wp_region_held_drew (S := fun w' => w'.cell? ⟨pa, 0, none⟩ = some (.int .i64 X.o) ∧ w'.cell? ⟨pa, 1, none⟩ = some (.int .i64 X.a) ∧ w'.cell? ⟨pa, 2, none⟩ = some (.int .i64 X.b) ∧ w'.cell? ⟨pa, 3, none⟩ = some (.string X.s) ∧
            w'.cell? ⟨pb, 0, none⟩ = some (.int .i64 Y.o) ∧ w'.cell? ⟨pb, 1, none⟩ = some (.int .i64 Y.a) ∧ w'.cell? ⟨pb, 2, none⟩ = some (.int .i64 Y.b) ∧ w'.cell? ⟨pb, 3, none⟩ = some (.string Y.s) ∧ Keeps (fun _ => False) w8 w') (by kernel_rfl) (⟨c0, c1, c2, c3, e0, e1, e2, e3, (Keeps.refl _ _).drew⟩) (fun hHeld => ?_)
          clear c0 c1 c2 c3 e0 e1 e2 e3
          refine wpAnyH_take (i := 0) (v := ?_) rfl (by kernel_rfl) (by kernel_rfl) (by kernel_rfl) (fun _ _ _ h => h) (Or.inl ⟨by rfl, ?_⟩) (by assumption) ?_
          rotate_left
          · (intro w' hSw; (try dsimp only at hSw); obtain ⟨c0, c1, c2, c3, e0, e1, e2, e3, ck⟩ := hSw; go_simp; (try (with_reducible rfl)))
          simp only [Act.put, List.getElem_toArray, List.getElem_cons_zero, List.setIfInBounds_toArray, List.set_cons_succ, List.set_cons_zero]
          refine wpAnyH_take (i := 1) (v := ?_) rfl (by kernel_rfl) (by kernel_rfl) (by kernel_rfl) (fun _ _ _ h => h) (Or.inl ⟨by rfl, ?_⟩) (by assumption) ?_
          rotate_left
          · (intro w' hSw; (try dsimp only at hSw); obtain ⟨c0, c1, c2, c3, e0, e1, e2, e3, ck⟩ := hSw; go_simp; (try (with_reducible rfl)))
          simp only [Act.put, List.getElem_toArray, List.getElem_cons_succ, List.getElem_cons_zero, List.setIfInBounds_toArray, List.set_cons_succ, List.set_cons_zero]
          refine wpAnyH_take (i := 2) (v := ?_) rfl (by kernel_rfl) (by kernel_rfl) (by kernel_rfl) (fun _ _ _ h => h) (Or.inl ⟨by rfl, ?_⟩) (by assumption) ?_
          rotate_left
          · (intro w' hSw; (try dsimp only at hSw); obtain ⟨c0, c1, c2, c3, e0, e1, e2, e3, ck⟩ := hSw; go_simp; (try (with_reducible rfl)))
          simp only [Act.put, List.getElem_toArray, List.getElem_cons_succ, List.getElem_cons_zero, List.setIfInBounds_toArray, List.set_cons_succ, List.set_cons_zero]
          refine wpAnyH_take (i := 4) (v := ?_) rfl (by kernel_rfl) (by kernel_rfl) (by kernel_rfl) (fun _ _ _ h => h) (Or.inl ⟨by rfl, ?_⟩) (by assumption) ?_
          rotate_left
          · (intro w' hSw; (try dsimp only at hSw); obtain ⟨c0, c1, c2, c3, e0, e1, e2, e3, ck⟩ := hSw; go_simp; (try (with_reducible rfl)))
          simp only [Act.put, List.getElem_toArray, List.getElem_cons_succ, List.getElem_cons_zero, List.setIfInBounds_toArray, List.set_cons_succ, List.set_cons_zero]
          refine wpAnyH_take (i := 7) (v := ?_) rfl (by kernel_rfl) (by kernel_rfl) (by kernel_rfl) (fun _ _ _ h => h) (Or.inl ⟨by rfl, ?_⟩) (by assumption) ?_
          rotate_left
          · (intro w' hSw; (try dsimp only at hSw); obtain ⟨c0, c1, c2, c3, e0, e1, e2, e3, ck⟩ := hSw; go_simp; (try (with_reducible rfl)))
          simp only [Act.put, List.getElem_toArray, List.getElem_cons_succ, List.getElem_cons_zero, List.setIfInBounds_toArray, List.set_cons_succ, List.set_cons_zero]
          refine wpAnyH_take (i := 8) (v := ?_) rfl (by kernel_rfl) (by kernel_rfl) (by kernel_rfl) (fun _ _ _ h => h) (Or.inl ⟨by rfl, ?_⟩) (by assumption) ?_
          rotate_left
          · (intro w' hSw; (try dsimp only at hSw); obtain ⟨c0, c1, c2, c3, e0, e1, e2, e3, ck⟩ := hSw; go_simp; (try (with_reducible rfl)))
          simp only [Act.put, List.getElem_toArray, List.getElem_cons_succ, List.getElem_cons_zero, List.setIfInBounds_toArray, List.set_cons_succ, List.set_cons_zero]
          refine wpAnyH_take (i := 9) (v := ?_) rfl (by kernel_rfl) (by kernel_rfl) (by kernel_rfl) (fun _ _ _ h => h) (Or.inl ⟨by rfl, ?_⟩) (by assumption) ?_
          rotate_left
          · (intro w' hSw; (try dsimp only at hSw); obtain ⟨c0, c1, c2, c3, e0, e1, e2, e3, ck⟩ := hSw; go_simp; (try (with_reducible rfl)))
          simp only [Act.put, List.getElem_toArray, List.getElem_cons_succ, List.getElem_cons_zero, List.setIfInBounds_toArray, List.set_cons_succ, List.set_cons_zero]
          refine wpAnyH_ready (rs := [3]) (by kernel_rfl) (by simp) ?_
          refine AllReadyH.cons rfl (fun K hK => ?_) AllReadyH.nil
          go_simp
          (go_at_call 35; refine (LA.out _ hHeld.2.2.2.2.2.2.2.2).mono ?_; rintro e w9 ⟨rfl, hb4⟩; (try go_simp))
          refine hK.out _ _ ?_ (fun hHeld => ?_)
          · (try dsimp only)
            obtain ⟨c0, c1, c2, c3, e0, e1, e2, e3, ck⟩ := hHeld
            exact ⟨(hb4.cell (cell_ltk c0) (fun h => h)).trans c0, (hb4.cell (cell_ltk c1) (fun h => h)).trans c1, (hb4.cell (cell_ltk c2) (fun h => h)).trans c2, (hb4.cell (cell_ltk c3) (fun h => h)).trans c3, (hb4.cell (cell_ltk e0) (fun h => h)).trans e0, (hb4.cell (cell_ltk e1) (fun h => h)).trans e1, (hb4.cell (cell_ltk e2) (fun h => h)).trans e2, (hb4.cell (cell_ltk e3) (fun h => h)).trans e3, ck.trans hb4 (fun _ _ h => h)⟩
          clear hK K
          refine wpAnyH_ready (rs := [5]) (by kernel_rfl) (by simp) ?_
          refine AllReadyH.cons rfl (fun K hK => ?_) AllReadyH.nil
          go_simp
          (go_at_call 35; refine (LB.out _ hHeld.2.2.2.2.2.2.2.2).mono ?_; rintro e w10 ⟨rfl, hb4⟩; (try go_simp))
          refine hK.out _ _ ?_ (fun hHeld => ?_)
          · (try dsimp only)
            obtain ⟨c0, c1, c2, c3, e0, e1, e2, e3, ck⟩ := hHeld
            exact ⟨(hb4.cell (cell_ltk c0) (fun h => h)).trans c0, (hb4.cell (cell_ltk c1) (fun h => h)).trans c1, (hb4.cell (cell_ltk c2) (fun h => h)).trans c2, (hb4.cell (cell_ltk c3) (fun h => h)).trans c3, (hb4.cell (cell_ltk e0) (fun h => h)).trans e0, (hb4.cell (cell_ltk e1) (fun h => h)).trans e1, (hb4.cell (cell_ltk e2) (fun h => h)).trans e2, (hb4.cell (cell_ltk e3) (fun h => h)).trans e3, ck.trans hb4 (fun _ _ h => h)⟩
          clear hK K
          refine wpAnyH_take (i := 6) (v := ?_) rfl (by kernel_rfl) (by kernel_rfl) (by kernel_rfl) (fun _ _ _ h => h) (Or.inl ⟨by rfl, ?_⟩) (by assumption) ?_
          rotate_left
          · (intro w' hSw; (try dsimp only at hSw); obtain ⟨c0, c1, c2, c3, e0, e1, e2, e3, ck⟩ := hSw; go_simp; (try (with_reducible rfl)))
          simp only [Act.put, List.getElem_toArray, List.getElem_cons_succ, List.getElem_cons_zero, List.setIfInBounds_toArray, List.set_cons_succ, List.set_cons_zero]
          refine wpAnyH_take (i := 10) (v := ?_) rfl (by kernel_rfl) (by kernel_rfl) (by kernel_rfl) (fun _ _ _ h => h) (Or.inl ⟨by rfl, ?_⟩) (by assumption) ?_
          rotate_left
          · (intro w' hSw; (try dsimp only at hSw); obtain ⟨c0, c1, c2, c3, e0, e1, e2, e3, ck⟩ := hSw; go_simp; (try (with_reducible rfl)))
          simp only [Act.put, List.getElem_toArray, List.getElem_cons_succ, List.getElem_cons_zero, List.setIfInBounds_toArray, List.set_cons_succ, List.set_cons_zero]
          refine wpAnyH_take (i := 11) (v := ?_) rfl (by kernel_rfl) (by kernel_rfl) (by kernel_rfl) (fun _ _ _ h => h) (Or.inl ⟨by rfl, ?_⟩) (by assumption) ?_
          rotate_left
          · (intro w' hSw; (try dsimp only at hSw); obtain ⟨c0, c1, c2, c3, e0, e1, e2, e3, ck⟩ := hSw; go_simp; (try (with_reducible rfl)))
          simp only [Act.put, List.getElem_toArray, List.getElem_cons_succ, List.getElem_cons_zero, List.setIfInBounds_toArray, List.set_cons_succ, List.set_cons_zero]
          refine wpAnyH_take (i := 12) (v := ?_) rfl (by kernel_rfl) (by kernel_rfl) (by kernel_rfl) (fun _ _ _ h => h) (Or.inl ⟨by rfl, ?_⟩) (by assumption) ?_
          rotate_left
          · (intro w' hSw; (try dsimp only at hSw); obtain ⟨c0, c1, c2, c3, e0, e1, e2, e3, ck⟩ := hSw; go_simp; (try (with_reducible rfl)))
          simp only [Act.put, List.getElem_toArray, List.getElem_cons_succ, List.getElem_cons_zero, List.setIfInBounds_toArray, List.set_cons_succ, List.set_cons_zero]
          refine wpAnyH_done (by kernel_rfl) ?_ _
          have hk7 := hHeld.2.2.2.2.2.2.2.2
          have K9 := Lib.hid (K8.out.trans hk7 (fun _ _ h => h))
          clear hk7 hHeld
          go_wp2
          go_ret
          exact ⟨by simp, K9.out⟩

end Go.Proofs.YtoombjbpblighaaDoor
